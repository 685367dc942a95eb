/- What the program's package token is asked to do, as contracts of its calls. -/
import Derived.Test.YthfcclheephokaaTky
import Derived.Test.YthfcclheephokaaTkp
namespace Go.Proofs.Ythfcclheephokaa.To
open Go Go.RowKit
set_option maxRecDepth 20000

/-- The words that no action has. -/
def w1 : ByteArray := ⟨#[115, 107, 105, 112]⟩
def w2 : ByteArray := ⟨#[116, 104, 114, 111, 119]⟩
def w3 : ByteArray := ⟨#[121, 105, 101, 108, 100]⟩
def w4 : ByteArray := ⟨#[115, 107, 105, 112, 112]⟩
def w5 : ByteArray := ⟨#[116, 104, 114, 111, 119, 119]⟩
def w6 : ByteArray := ⟨#[121, 105, 101, 108, 100, 100]⟩
/-- Six words in memory of the call's own that may be written into. -/
def WordsPost (w : World) (e : Ending) (w' : World) : Prop := ∃ g off cap, e = .returned (.slice (some ⟨g, off, none⟩) 6 cap) ∧ w.heap.size ≤ g ∧ 6 ≤ cap ∧
  (w'.cell? ⟨g, off, none⟩ = some (.string w1) ∧ w'.cell? ⟨g, off + 1, none⟩ = some (.string w2) ∧ w'.cell? ⟨g, off + 2, none⟩ = some (.string w3) ∧ w'.cell? ⟨g, off + 3, none⟩ = some (.string w4) ∧ w'.cell? ⟨g, off + 4, none⟩ = some (.string w5) ∧ w'.cell? ⟨g, off + 5, none⟩ = some (.string w6)) ∧
  (∀ i, i < 6 → w'.frozen? ⟨g, off + i, none⟩ = false) ∧ Below w.heap.size w w'
/-- The same, in memory of the call's own. -/
def LexNew (r : Res) (n : Nat) (w : World) (e : Ending) (w' : World) : Prop := ∃ y, e = .returned (.tuple #[y, .int .i64 (r.place n : Nat), .int .i64 r.err]) ∧ Ap.RdO (fun g => w.heap.size ≤ g) w' 3 y r.toks.length (cls r.toks) ∧ Below w.heap.size w w'
theorem LexNew.post {r : Res} {n : Nat} {w w' : World} {e : Ending} (h : LexNew r n w e w') : LexPost r n w e w' := by
  obtain ⟨y, he, ht, hb⟩ := h
  exact ⟨y, he, ht.rd, hb⟩
/-- The contracts of package token. -/
structure Con : Prop where
  cLex : ∀ (s : ByteArray) (w : World), s.size ≤ 140737488355328 → Calls Try.prog 10 #[.string s] w (LexNew (lexR s) s.size w)
  cPrint : ∀ (t : Tk) (w : World), t.n.size ≤ 140737488355328 → Calls Try.prog 14 #[.agg #[.int .i64 t.k, .int .i64 t.a, .string t.n]] w (PrintPost (prt t) w)
  cWords : ∀ (w : World), Calls Try.prog 16 #[] w (WordsPost w)

theorem Con.lex (con : Con) (s : ByteArray) (w : World) (hs : s.size ≤ 140737488355328) : Calls Try.prog 10 #[.string s] w (LexPost (lexR s) s.size w) := (con.cLex s w hs).mono fun _ _ h => h.post

deriving instance DecidableEq for Res
def t1 : ByteArray := ⟨#[91, 97, 47, 98, 93, 32, 59, 99]⟩
def t2 : ByteArray := ⟨#[97, 32, 49]⟩
def t3 : ByteArray := ⟨#[59, 32, 97, 98, 99, 100, 101, 102, 103, 104, 105]⟩
def l1 : List Tk := [⟨3, 0, ⟨#[]⟩⟩, ⟨10, 1, ⟨#[97]⟩⟩, ⟨9, 2, ⟨#[]⟩⟩, ⟨10, 3, ⟨#[98]⟩⟩, ⟨4, 4, ⟨#[]⟩⟩, ⟨5, 6, ⟨#[]⟩⟩, ⟨10, 7, ⟨#[99]⟩⟩]
theorem lex1 : lexR t1 = .ok l1 := by decide +kernel
theorem lex2 : lexR t2 = .bad 2 50 := by decide +kernel
theorem lex3 : lexR t3 = .bad 2 51 := by decide +kernel

/-- A read of a text that gives these tokens. -/
theorem LexPost.ok {l : List Tk} {n : Nat} {w w' : World} {e : Ending} (h : LexPost (.ok l) n w e w') (hl : l ≠ []) : ∃ b off cap, e = .returned (.tuple #[.slice (some ⟨b, off, none⟩) l.length cap, .int .i64 (n : Int), .int .i64 0]) ∧ l.length ≤ cap ∧ At w' b off l ∧ Below w.heap.size w w' := by
  obtain ⟨y, rfl, ht, hb⟩ := h
  rcases ht.form with ⟨rfl, _⟩ | ⟨b, off, cap, rfl, hc, hat⟩
  · exact absurd rfl hl
  · exact ⟨b, off, cap, rfl, hc, hat, hb⟩
theorem At.below {w w' : World} {b off : Nat} {l : List Tk} (h : At w b off l) (hb : Below w.heap.size w w') : At w' b off l := fun k hk => by
  obtain ⟨e1, e2, e3⟩ := h k hk
  exact ⟨by rw [hb.cell (Ap.cell_lt e1)]; exact e1, by rw [hb.cell (Ap.cell_lt e2)]; exact e2, by rw [hb.cell (Ap.cell_lt e3)]; exact e3⟩
theorem prt1 : prt ⟨8, 9, ⟨#[]⟩⟩ = some ⟨#[62]⟩ := by decide +kernel
theorem prt2 : prt ⟨10, 0, ⟨#[]⟩⟩ = none := by decide +kernel

set_option maxHeartbeats 1000000 in
theorem alive_any (con : Con) (w : World) : Calls Try.prog 9 #[] w fun e w' => e = .returned (.bool true) ∧ Below w.heap.size w w' := by
  have L1 := Lib.hid (fun w' => con.lex t1 w' (by decide))
  have L2 := Lib.hid (fun w' => con.lex t2 w' (by decide))
  have L3 := Lib.hid (fun w' => con.lex t3 w' (by decide))
  have P1 := Lib.hid (fun w' => con.cPrint ⟨8, 9, ⟨#[]⟩⟩ w' (by decide))
  have P2 := Lib.hid (fun w' => con.cPrint ⟨10, 0, ⟨#[]⟩⟩ w' (by decide))
  have W1 := Lib.hid con.cWords
  rw [lex1] at L1
  rw [lex2] at L2
  rw [lex3] at L3
  rw [prt1] at P1
  rw [prt2] at P2
  go_enter Try.func9, Try.ntmps9
  go_wp2_with fail
  refine (L1.out _).mono ?_
  intro e wa ha
  obtain ⟨b, off, cap, rfl, hc, hat, hba⟩ := ha.ok (by decide)
  have HA := Lib.hid hat
  have BA := Lib.hid hba
  clear ha hat hba
  go_wp2_with fail
  refine (L2.out _).mono ?_
  rintro e wb ⟨yb, rfl, -, hbb⟩
  have BB := Lib.hid (BA.out.trans (hbb.mono BA.out.size))
  have HB := Lib.hid (HA.out.below hbb)
  clear hbb
  go_wp2_with fail
  refine (L3.out _).mono ?_
  rintro e wc ⟨yc, rfl, -, hbc⟩
  have BC := Lib.hid (BB.out.trans (hbc.mono BB.out.size))
  have HC := Lib.hid (HB.out.below hbc)
  clear hbc
  go_wp2_with fail
  refine (P1.out _).mono ?_
  rintro e wd ⟨rfl, hbd⟩
  have BD := Lib.hid (BC.out.trans (hbd.mono BC.out.size))
  have HD := Lib.hid (HC.out.below hbd)
  clear hbd
  go_wp2_with fail
  refine (P2.out _).mono ?_
  rintro e we ⟨rfl, hbe⟩
  have BE := Lib.hid (BD.out.trans (hbe.mono BD.out.size))
  have HE := Lib.hid (HD.out.below hbe)
  clear hbe
  go_wp2_with fail
  refine (W1.out _).mono ?_
  rintro e wf ⟨g, go, gc, rfl, hg, hgc, ⟨_, _, _, _, d5, _⟩, -, hbf⟩
  have BF := Lib.hid (BE.out.trans (hbf.mono BE.out.size))
  obtain ⟨c1, c2, c3⟩ := HE.out.below hbf 5 (by decide)
  obtain ⟨c4, c5, c6⟩ := HE.out.below hbf 6 (by decide)
  change wf.cell? _ = some (.int .i64 5) at c1
  change wf.cell? _ = some (.int .i64 6) at c2
  change wf.cell? _ = some (.string ⟨#[]⟩) at c3
  change wf.cell? _ = some (.int .i64 10) at c4
  change wf.cell? _ = some (.int .i64 7) at c5
  change wf.cell? _ = some (.string ⟨#[99]⟩) at c6
  change wf.cell? _ = some (.string ⟨#[116, 104, 114, 111, 119, 119]⟩) at d5
  clear hbf hg
  go_wp2_with fail
  go_ret
  exact ⟨rfl, BF.out⟩
end Go.Proofs.Ythfcclheephokaa.To
