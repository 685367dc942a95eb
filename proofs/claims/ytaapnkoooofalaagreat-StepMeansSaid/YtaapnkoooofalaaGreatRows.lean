/-
  No cell of these rows narrows 'for every input' (looked for: loops, veiled, ifaces, maps, wideKeys, modest, calm, conditions, laid).
  DERIVED. THE GIVEN ROWS OF THIS SEAT. 2 by the template 'for every input the law returns true; each argument reads behind the call as it read before'; 0 by the template 'total and deterministic' (their statements: YtaapnkoooofalaaGreatTotals.lean).
  GIVEN WITH THE SEED: the statements are not yours to turn. If you find one false, say at which input.
  Laid BY PROGRAM, IN A SANDBOX (cutbox-rows.mjs): the forced cells as the released guide's own fill.sh prints them over the translation edab344d390e6231… (all of the seat's roots in one cut). By AI agents, Wed Nov 11 2026. No macro, syntax, notation, axiom, sorry.
-/
import Derived.Test.YtaapnkoooofalaaGreatChecked
import GoSem.Claim
import GoSem.ClaimJoined
import GoSem.ClaimMapViews
import Derived.JoinedTies
import Derived.KernelRfl
namespace Go.Proofs.YtaapnkoooofalaaGreat
/- THE CELL 'sum', in the pinned program and in every row, IS THE sha256 OF THE DUMP (.gsa) THAT YtaapnkoooofalaaGreatProg.lean LOADS. Nothing in Lean hashes anything: it is a label: what it is worth is what the hold of that sum in a sandbox is worth. -/
noncomputable def Tryz.pinned : Pinned := { name := "ytaapnkoooofalaagreat", sum := "edab344d390e6231b8f8b47d2c8d6daa2d9bf938d58caede181362c85b38ff53", checked := Tryz.checked }
namespace Rows
def none {H : Type} : Left H := { results := [], args := [] }

/-- 'redresslaw13.StepNext': WHATEVER THE INPUT: true; the input reads as it did. -/
def stepNextSpec : ChangeSpec := { name := "stepNext", fn := fun _ => fun
  | [d1, d2] => { results := [.lit (.bool true)], args := [d1, d2] }
  | _ => none }
def stepNextRow : OpenClaim := { program := "ytaapnkoooofalaagreat", sum := "edab344d390e6231b8f8b47d2c8d6daa2d9bf938d58caede181362c85b38ff53", func := "redress/redresslaw13.StepNext", spec := "stepNext", unfollowed := true, recurses := true, apart := false }
def StepNextSaid : Prop := stepNextRow.holds Tryz.pinned (OpenSpec.ofChange stepNextSpec)

/-- ITS FALSE NEIGHBOUR: 'it returns false'. Refute it at one input. -/
def stepNextWrong : ChangeSpec := { name := "stepNext", fn := fun _ => fun
  | [d1, d2] => { results := [.lit (.bool false)], args := [d1, d2] }
  | _ => none }
def StepNextWrongFalsely : Prop := stepNextRow.holds Tryz.pinned (OpenSpec.ofChange stepNextWrong)

/-- 'redresslaw13.StepMeans': WHATEVER THE INPUT: true; the input reads as it did. -/
def stepMeansSpec : ChangeSpec := { name := "stepMeans", fn := fun _ => fun
  | [d] => { results := [.lit (.bool true)], args := [d] }
  | _ => none }
def stepMeansRow : OpenClaim := { program := "ytaapnkoooofalaagreat", sum := "edab344d390e6231b8f8b47d2c8d6daa2d9bf938d58caede181362c85b38ff53", func := "redress/redresslaw13.StepMeans", spec := "stepMeans", unfollowed := true, recurses := true, apart := false }
def StepMeansSaid : Prop := stepMeansRow.holds Tryz.pinned (OpenSpec.ofChange stepMeansSpec)

/-- ITS FALSE NEIGHBOUR: 'it returns false'. Refute it at one input. -/
def stepMeansWrong : ChangeSpec := { name := "stepMeans", fn := fun _ => fun
  | [d] => { results := [.lit (.bool false)], args := [d] }
  | _ => none }
def StepMeansWrongFalsely : Prop := stepMeansRow.holds Tryz.pinned (OpenSpec.ofChange stepMeansWrong)

/- THE SECOND FORM. 'bulk': how many values and letters a reading holds, each counted each time it is reached (what is shared counts as often as it is met; a slice's spare places count too). A statement '..UptoSaid' is the law's where the arguments, and the package variables that the reading takes, are together of bulk at most 1048576: NARROWER than '..Said'. Prove '..Said' where nothing that the law and all that it calls make is longer than what came in: it says more and counts as full. Else prove '..UptoSaid'. A law counts once. -/
mutual
def uptoBulk {H : Type} : DataW H → Nat
  | .lit (.string bytes) => bytes.length + 1
  | .lit _ => 1
  | .nil => 1
  | .ptr d => uptoBulk d + 1
  | .slice elems spare => uptoBulkAll elems + uptoBulkAll spare + 1
  | .agg parts => uptoBulkAll parts + 1
  | .iface _ d => uptoBulk d + 1
  | .map entries => uptoBulkEntries entries + 1
  | .held _ => 1
def uptoBulkAll {H : Type} : List (DataW H) → Nat
  | [] => 0
  | d :: r => uptoBulk d + uptoBulkAll r
def uptoBulkEntries {H : Type} : List (Lit × DataW H) → Nat
  | [] => 0
  | x :: r => uptoBulkEntry x + uptoBulkEntries r
def uptoBulkEntry {H : Type} : Lit × DataW H → Nat
  | (.string bytes, d) => bytes.length + uptoBulk d + 1
  | (_, d) => uptoBulk d + 1
 end
def uptoSmall : (H : Type) → List (DataW H) → Bool := fun _ ds => decide (uptoBulkAll ds ≤ 1048576)
def OpenSpec.upto (s : _root_.Go.ChangeSpec) : _root_.Go.OpenSpec := { _root_.Go.OpenSpec.ofChange s with cond := some uptoSmall }

/-- 'redresslaw13.StepNext', WHERE WHAT IT READS IS OF BULK AT MOST 1048576: true; the input reads as it did. -/
def stepNextUptoRow : OpenClaim := { program := "ytaapnkoooofalaagreat", sum := "edab344d390e6231b8f8b47d2c8d6daa2d9bf938d58caede181362c85b38ff53", func := "redress/redresslaw13.StepNext", spec := "stepNext", unfollowed := true, recurses := true, apart := false, narrowed := true }
def StepNextUptoSaid : Prop := stepNextUptoRow.holds Tryz.pinned (OpenSpec.upto stepNextSpec)

/-- 'redresslaw13.StepMeans', WHERE WHAT IT READS IS OF BULK AT MOST 1048576: true; the input reads as it did. -/
def stepMeansUptoRow : OpenClaim := { program := "ytaapnkoooofalaagreat", sum := "edab344d390e6231b8f8b47d2c8d6daa2d9bf938d58caede181362c85b38ff53", func := "redress/redresslaw13.StepMeans", spec := "stepMeans", unfollowed := true, recurses := true, apart := false, narrowed := true }
def StepMeansUptoSaid : Prop := stepMeansUptoRow.holds Tryz.pinned (OpenSpec.upto stepMeansSpec)

end Rows
end Go.Proofs.YtaapnkoooofalaaGreat
