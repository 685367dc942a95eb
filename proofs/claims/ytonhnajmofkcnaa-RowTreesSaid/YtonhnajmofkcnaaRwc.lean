/- What the program's package row is asked to do, as contracts of its calls; and the statements' own first look at it, walked from them. -/
import Derived.Test.YtonhnajmofkcnaaRwk
import Derived.Test.YtonhnajmofkcnaaRws
import Derived.Test.YtonhnajmofkcnaaRwu
namespace Go.Proofs.Ytonhnajmofkcnaa.Rw
open Go Go.RowKit
set_option maxRecDepth 20000

/-- A row of the call's own that may be written into; out: a block in which it does not lie. -/
def Own1 (base : Nat) (out : Option Nat) (w : World) (a : Value) (r : List Nd) : Prop :=
  Ap.RdO (fun g => base ≤ g ∧ some g ≠ out) w 3 a r.length (cls r) ∧ ∀ b off cap, a = .slice (some ⟨b, off, none⟩) r.length cap → ∀ j, j < r.length * 3 → w.frozen? ⟨b, off + j, none⟩ = false
def OwnC (base : Nat) (out : Option Nat) (w : World) : List Value → List (List Nd) → Prop
  | [], [] => True
  | a :: cs, r :: rs => Own1 base out w a r ∧ OwnC base out w cs rs
  | _, _ => False
def blk : Value → Option Nat
  | .slice (some a) _ _ => some a.block
  | _ => none
def KidsPost (ls : List (List Nd)) (w : World) (e : Ending) (w' : World) : Prop :=
  ∃ y cs, e = .returned y ∧ Ap.RdO (fun g => w.heap.size ≤ g) w' 1 y ls.length cs ∧ OwnC w.heap.size (blk y) w' cs ls ∧ Below w.heap.size w w'
theorem OwnC.rwc {base : Nat} {out : Option Nat} {w : World} : ∀ {cs : List Value} {ls : List (List Nd)}, OwnC base out w cs ls → RwC w cs ls
  | [], [], _ => trivial
  | _ :: _, _ :: _, h => ⟨h.1.1.rd, OwnC.rwc h.2⟩
  | [], _ :: _, h => h.elim
  | _ :: _, [], h => h.elim
def ndV (x : Nd) : Value := .agg #[.int .i64 x.k, .string x.n, .int .i64 x.s]

/-- The contracts of package row. -/
structure Con : Prop where
  cAr : ∀ (k : Int) (w : World), Calls Try.prog 10 #[.int .i64 k] w fun e w' => e = .returned (.int .i64 (ar k)) ∧ Below w.heap.size w w'
  cRight : ∀ (x : Nd) (w : World), x.n.size ≤ 140737488355328 → Calls Try.prog 12 #[.agg #[.int .i64 x.k, .string x.n, .int .i64 x.s]] w fun e w' => e = .returned (.bool (rgt x)) ∧ Below w.heap.size w w'
  cSize : ∀ (v : Value) (l : List Nd) (w : World), Nds w v l → l.length ≤ 1000 → Calls Try.prog 15 #[v] w fun e w' => e = .returned (.int .i64 (size l)) ∧ Below w.heap.size w w'
  cDepth : ∀ (v : Value) (l : List Nd) (w : World), Nds w v l → l.length ≤ 1000 → Calls Try.prog 17 #[v] w fun e w' => e = .returned (.int .i64 (depth l)) ∧ Below w.heap.size w w'
  cWhole : ∀ (v : Value) (l : List Nd) (w : World), Nds w v l → l.length ≤ 1000 → Nms l → Calls Try.prog 19 #[v] w fun e w' => e = .returned (.bool (whole l)) ∧ Below w.heap.size w w'
  cKids : ∀ (v : Value) (l : List Nd) (w : World), Nds w v l → l.length ≤ 1000 → Calls Try.prog 21 #[v] w (KidsPost (kids l) w)
  cMake : ∀ (x : Nd) (v : Value) (ls : List (List Nd)) (w : World), Rws w v ls → ls.length ≤ 1000 → ls.flatten.length ≤ 1000 → Calls Try.prog 24 #[.agg #[.int .i64 x.k, .string x.n, .int .i64 x.s], v] w fun e w' => ∃ y, e = .returned y ∧ Ap.RdO (fun g => w.heap.size ≤ g) w' 3 y (x :: ls.flatten).length (cls (x :: ls.flatten)) ∧ Below w.heap.size w w'
  cCount : ∀ (v u : Value) (l : List Nd) (ks : List Int) (w : World), Nds w v l → Ints w u ks → l.length ≤ 1000 → ks.length ≤ 1000 → Calls Try.prog 26 #[v, u] w fun e w' => e = .returned (.int .i64 (cnt l ks)) ∧ Below w.heap.size w w'
  cSame : ∀ (v u : Value) (l m : List Nd) (w : World), Nds w v l → Nds w u m → l.length ≤ 1000 → m.length ≤ 1000 → Calls Try.prog 28 #[v, u] w fun e w' => e = .returned (.bool (sameN l m)) ∧ Below w.heap.size w w'

/-- The tree of the first look. -/
def n0 : Nd := ⟨5, ⟨#[]⟩, 0⟩
def n1 : Nd := ⟨1, ⟨#[97]⟩, 0⟩
def n2 : Nd := ⟨6, ⟨#[]⟩, 0⟩
def n3 : Nd := ⟨2, ⟨#[]⟩, 0⟩
def n4 : Nd := ⟨3, ⟨#[]⟩, 0⟩
def aL : List Nd := [n0, n1, n2, n3, n4]
theorem aL_size : size aL = 5 := by decide +kernel
theorem aL_depth : depth aL = 3 := by decide +kernel
theorem aL_whole : whole aL = true := by decide +kernel
theorem aL_part : whole [n1, n2, n3, n4] = false := by decide +kernel
theorem aL_cut : size [n0, n1, n2, n3] = 0 := by decide +kernel
theorem aL_kids : kids aL = [[n1], [n2, n3, n4]] := by decide +kernel
theorem aL_cnt : cnt aL [2, 3] = 2 := by decide +kernel
theorem aL_rgt : rgt n1 = true := by decide +kernel
theorem aL_no1 : rgt ⟨1, ⟨#[]⟩, 0⟩ = false := by decide +kernel
theorem aL_no2 : rgt ⟨2, ⟨#[]⟩, 1⟩ = false := by decide +kernel
theorem aL_nms : Nms aL := by
  intro x hx
  have : x.n.size ≤ 1 := by
    simp only [aL, List.mem_cons, List.not_mem_nil, or_false] at hx
    rcases hx with rfl | rfl | rfl | rfl | rfl <;> decide
  omega
end Go.Proofs.Ytonhnajmofkcnaa.Rw
