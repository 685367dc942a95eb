/-
  No cell of these rows narrows 'for every input' (looked for: loops, veiled, ifaces, maps, wideKeys, modest, calm, conditions, laid).
  DERIVED. THE GIVEN ROWS OF THIS SEAT. 5 by the template 'for every input the law returns true; each argument reads behind the call as it read before'; 0 by the template 'total and deterministic' (their statements: YtaapnkoooofalaaTotals.lean).
  GIVEN WITH THE SEED: the statements are not yours to turn. If you find one false, say at which input.
  Laid BY PROGRAM, IN A SANDBOX (cutbox-rows.mjs): the forced cells as the released guide's own fill.sh prints them over the translation 4ea4a87425597365… (all of the seat's roots in one cut). By AI agents, Wed Nov 11 2026. No macro, syntax, notation, axiom, sorry.
-/
import Derived.Test.YtaapnkoooofalaaChecked
import GoSem.Claim
import GoSem.ClaimJoined
import GoSem.ClaimMapViews
import Derived.JoinedTies
import Derived.KernelRfl
namespace Go.Proofs.Ytaapnkoooofalaa
/- THE CELL 'sum', in the pinned program and in every row, IS THE sha256 OF THE DUMP (.gsa) THAT YtaapnkoooofalaaProg.lean LOADS. Nothing in Lean hashes anything: it is a label: what it is worth is what the hold of that sum in a sandbox is worth. -/
noncomputable def Try.pinned : Pinned := { name := "ytaapnkoooofalaa", sum := "4ea4a87425597365269a001b0760ace1c4683e59981ebe88cd8244ab3bb76869", checked := Try.checked }
namespace Rows
def none {H : Type} : Left H := { results := [], args := [] }

/-- 'redresslaw13.StepPuts': WHATEVER THE INPUT: true; the input reads as it did. -/
def stepPutsSpec : ChangeSpec := { name := "stepPuts", fn := fun _ => fun
  | [d1, d2, d3] => { results := [.lit (.bool true)], args := [d1, d2, d3] }
  | _ => none }
def stepPutsRow : OpenClaim := { program := "ytaapnkoooofalaa", sum := "4ea4a87425597365269a001b0760ace1c4683e59981ebe88cd8244ab3bb76869", func := "redress/redresslaw13.StepPuts", spec := "stepPuts", unfollowed := true, recurses := true, apart := false }
def StepPutsSaid : Prop := stepPutsRow.holds Try.pinned (OpenSpec.ofChange stepPutsSpec)

/-- ITS FALSE NEIGHBOUR: 'it returns false'. Refute it at one input. -/
def stepPutsWrong : ChangeSpec := { name := "stepPuts", fn := fun _ => fun
  | [d1, d2, d3] => { results := [.lit (.bool false)], args := [d1, d2, d3] }
  | _ => none }
def StepPutsWrongFalsely : Prop := stepPutsRow.holds Try.pinned (OpenSpec.ofChange stepPutsWrong)

/-- 'redresslaw13.StepKinds': WHATEVER THE INPUT: true; the input reads as it did. -/
def stepKindsSpec : ChangeSpec := { name := "stepKinds", fn := fun _ => fun
  | [d] => { results := [.lit (.bool true)], args := [d] }
  | _ => none }
def stepKindsRow : OpenClaim := { program := "ytaapnkoooofalaa", sum := "4ea4a87425597365269a001b0760ace1c4683e59981ebe88cd8244ab3bb76869", func := "redress/redresslaw13.StepKinds", spec := "stepKinds", unfollowed := true, recurses := true, apart := false }
def StepKindsSaid : Prop := stepKindsRow.holds Try.pinned (OpenSpec.ofChange stepKindsSpec)

/-- ITS FALSE NEIGHBOUR: 'it returns false'. Refute it at one input. -/
def stepKindsWrong : ChangeSpec := { name := "stepKinds", fn := fun _ => fun
  | [d] => { results := [.lit (.bool false)], args := [d] }
  | _ => none }
def StepKindsWrongFalsely : Prop := stepKindsRow.holds Try.pinned (OpenSpec.ofChange stepKindsWrong)

/-- 'redresslaw13.StepRefuses': WHATEVER THE INPUT: true; the input reads as it did. -/
def stepRefusesSpec : ChangeSpec := { name := "stepRefuses", fn := fun _ => fun
  | [d1, d2] => { results := [.lit (.bool true)], args := [d1, d2] }
  | _ => none }
def stepRefusesRow : OpenClaim := { program := "ytaapnkoooofalaa", sum := "4ea4a87425597365269a001b0760ace1c4683e59981ebe88cd8244ab3bb76869", func := "redress/redresslaw13.StepRefuses", spec := "stepRefuses", unfollowed := true, recurses := true, apart := false }
def StepRefusesSaid : Prop := stepRefusesRow.holds Try.pinned (OpenSpec.ofChange stepRefusesSpec)

/-- ITS FALSE NEIGHBOUR: 'it returns false'. Refute it at one input. -/
def stepRefusesWrong : ChangeSpec := { name := "stepRefuses", fn := fun _ => fun
  | [d1, d2] => { results := [.lit (.bool false)], args := [d1, d2] }
  | _ => none }
def StepRefusesWrongFalsely : Prop := stepRefusesRow.holds Try.pinned (OpenSpec.ofChange stepRefusesWrong)

/-- 'redresslaw13.StepLess': WHATEVER THE INPUT: true; the input reads as it did. -/
def stepLessSpec : ChangeSpec := { name := "stepLess", fn := fun _ => fun
  | [d] => { results := [.lit (.bool true)], args := [d] }
  | _ => none }
def stepLessRow : OpenClaim := { program := "ytaapnkoooofalaa", sum := "4ea4a87425597365269a001b0760ace1c4683e59981ebe88cd8244ab3bb76869", func := "redress/redresslaw13.StepLess", spec := "stepLess", unfollowed := true, recurses := true, apart := false }
def StepLessSaid : Prop := stepLessRow.holds Try.pinned (OpenSpec.ofChange stepLessSpec)

/-- ITS FALSE NEIGHBOUR: 'it returns false'. Refute it at one input. -/
def stepLessWrong : ChangeSpec := { name := "stepLess", fn := fun _ => fun
  | [d] => { results := [.lit (.bool false)], args := [d] }
  | _ => none }
def StepLessWrongFalsely : Prop := stepLessRow.holds Try.pinned (OpenSpec.ofChange stepLessWrong)

/-- 'redresslaw13.StepBeside': WHATEVER THE INPUT: true; the input reads as it did. -/
def stepBesideSpec : ChangeSpec := { name := "stepBeside", fn := fun _ => fun
  | [d1, d2, d3] => { results := [.lit (.bool true)], args := [d1, d2, d3] }
  | _ => none }
def stepBesideRow : OpenClaim := { program := "ytaapnkoooofalaa", sum := "4ea4a87425597365269a001b0760ace1c4683e59981ebe88cd8244ab3bb76869", func := "redress/redresslaw13.StepBeside", spec := "stepBeside", unfollowed := true, recurses := true, apart := false }
def StepBesideSaid : Prop := stepBesideRow.holds Try.pinned (OpenSpec.ofChange stepBesideSpec)

/-- ITS FALSE NEIGHBOUR: 'it returns false'. Refute it at one input. -/
def stepBesideWrong : ChangeSpec := { name := "stepBeside", fn := fun _ => fun
  | [d1, d2, d3] => { results := [.lit (.bool false)], args := [d1, d2, d3] }
  | _ => none }
def StepBesideWrongFalsely : Prop := stepBesideRow.holds Try.pinned (OpenSpec.ofChange stepBesideWrong)

/- THE SECOND FORM. 'bulk': how many values and letters a reading holds, each counted each time it is reached (what is shared counts as often as it is met; a slice's spare places count too). A statement '..UptoSaid' is the law's where the arguments, and the package variables that the reading takes, are together of bulk at most 1048576: NARROWER than '..Said'. Prove '..Said' where nothing that the law and all that it calls make is longer than what came in: it says more and counts as full. Else prove '..UptoSaid'. A law counts once. -/
mutual
def uptoBulk {H : Type} : DataW H → Nat
  | .lit (.string bytes) => bytes.length + 1
  | .lit _ => 1
  | .nil => 1
  | .ptr d => uptoBulk d + 1
  | .slice elems spare => uptoBulkAll elems + uptoBulkAll spare + 1
  | .agg parts => uptoBulkAll parts + 1
  | .iface _ d => uptoBulk d + 1
  | .map entries => uptoBulkEntries entries + 1
  | .held _ => 1
def uptoBulkAll {H : Type} : List (DataW H) → Nat
  | [] => 0
  | d :: r => uptoBulk d + uptoBulkAll r
def uptoBulkEntries {H : Type} : List (Lit × DataW H) → Nat
  | [] => 0
  | x :: r => uptoBulkEntry x + uptoBulkEntries r
def uptoBulkEntry {H : Type} : Lit × DataW H → Nat
  | (.string bytes, d) => bytes.length + uptoBulk d + 1
  | (_, d) => uptoBulk d + 1
 end
def uptoSmall : (H : Type) → List (DataW H) → Bool := fun _ ds => decide (uptoBulkAll ds ≤ 1048576)
def OpenSpec.upto (s : _root_.Go.ChangeSpec) : _root_.Go.OpenSpec := { _root_.Go.OpenSpec.ofChange s with cond := some uptoSmall }

/-- 'redresslaw13.StepPuts', WHERE WHAT IT READS IS OF BULK AT MOST 1048576: true; the input reads as it did. -/
def stepPutsUptoRow : OpenClaim := { program := "ytaapnkoooofalaa", sum := "4ea4a87425597365269a001b0760ace1c4683e59981ebe88cd8244ab3bb76869", func := "redress/redresslaw13.StepPuts", spec := "stepPuts", unfollowed := true, recurses := true, apart := false, narrowed := true }
def StepPutsUptoSaid : Prop := stepPutsUptoRow.holds Try.pinned (OpenSpec.upto stepPutsSpec)

/-- 'redresslaw13.StepKinds', WHERE WHAT IT READS IS OF BULK AT MOST 1048576: true; the input reads as it did. -/
def stepKindsUptoRow : OpenClaim := { program := "ytaapnkoooofalaa", sum := "4ea4a87425597365269a001b0760ace1c4683e59981ebe88cd8244ab3bb76869", func := "redress/redresslaw13.StepKinds", spec := "stepKinds", unfollowed := true, recurses := true, apart := false, narrowed := true }
def StepKindsUptoSaid : Prop := stepKindsUptoRow.holds Try.pinned (OpenSpec.upto stepKindsSpec)

/-- 'redresslaw13.StepRefuses', WHERE WHAT IT READS IS OF BULK AT MOST 1048576: true; the input reads as it did. -/
def stepRefusesUptoRow : OpenClaim := { program := "ytaapnkoooofalaa", sum := "4ea4a87425597365269a001b0760ace1c4683e59981ebe88cd8244ab3bb76869", func := "redress/redresslaw13.StepRefuses", spec := "stepRefuses", unfollowed := true, recurses := true, apart := false, narrowed := true }
def StepRefusesUptoSaid : Prop := stepRefusesUptoRow.holds Try.pinned (OpenSpec.upto stepRefusesSpec)

/-- 'redresslaw13.StepLess', WHERE WHAT IT READS IS OF BULK AT MOST 1048576: true; the input reads as it did. -/
def stepLessUptoRow : OpenClaim := { program := "ytaapnkoooofalaa", sum := "4ea4a87425597365269a001b0760ace1c4683e59981ebe88cd8244ab3bb76869", func := "redress/redresslaw13.StepLess", spec := "stepLess", unfollowed := true, recurses := true, apart := false, narrowed := true }
def StepLessUptoSaid : Prop := stepLessUptoRow.holds Try.pinned (OpenSpec.upto stepLessSpec)

/-- 'redresslaw13.StepBeside', WHERE WHAT IT READS IS OF BULK AT MOST 1048576: true; the input reads as it did. -/
def stepBesideUptoRow : OpenClaim := { program := "ytaapnkoooofalaa", sum := "4ea4a87425597365269a001b0760ace1c4683e59981ebe88cd8244ab3bb76869", func := "redress/redresslaw13.StepBeside", spec := "stepBeside", unfollowed := true, recurses := true, apart := false, narrowed := true }
def StepBesideUptoSaid : Prop := stepBesideUptoRow.holds Try.pinned (OpenSpec.upto stepBesideSpec)

end Rows
end Go.Proofs.Ytaapnkoooofalaa
