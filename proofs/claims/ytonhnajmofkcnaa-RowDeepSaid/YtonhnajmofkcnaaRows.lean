/-
  No cell of these rows narrows 'for every input' (looked for: loops, veiled, ifaces, maps, wideKeys, modest, calm, conditions, laid).
  DERIVED. THE GIVEN ROWS OF THIS SEAT. 6 by the template 'for every input the law returns true; each argument reads behind the call as it read before'; 0 by the template 'total and deterministic' (their statements: YtonhnajmofkcnaaTotals.lean).
  GIVEN WITH THE SEED: the statements are not yours to turn. If you find one false, say at which input.
  Laid BY PROGRAM, IN A SANDBOX (cutbox-rows.mjs): the forced cells as the released guide's own fill.sh prints them over the translation 5af738c6e3eca438… (all of the seat's roots in one cut). By AI agents, Wed Nov 11 2026. No macro, syntax, notation, axiom, sorry.
-/
import Derived.Test.YtonhnajmofkcnaaChecked
import GoSem.Claim
import GoSem.ClaimJoined
import GoSem.ClaimMapViews
import Derived.JoinedTies
import Derived.KernelRfl
namespace Go.Proofs.Ytonhnajmofkcnaa
/- THE CELL 'sum', in the pinned program and in every row, IS THE sha256 OF THE DUMP (.gsa) THAT YtonhnajmofkcnaaProg.lean LOADS. Nothing in Lean hashes anything: it is a label: what it is worth is what the hold of that sum in a sandbox is worth. -/
noncomputable def Try.pinned : Pinned := { name := "ytonhnajmofkcnaa", sum := "5af738c6e3eca438f97b68879ec636cbec49ec43131f99c3f2037c2cbb439f67", checked := Try.checked }
namespace Rows
def none {H : Type} : Left H := { results := [], args := [] }

/-- 'redresslaw03.RowNodes': WHATEVER THE INPUT: true; the input reads as it did. -/
def rowNodesSpec : ChangeSpec := { name := "rowNodes", fn := fun _ => fun
  | [d] => { results := [.lit (.bool true)], args := [d] }
  | _ => none }
def rowNodesRow : OpenClaim := { program := "ytonhnajmofkcnaa", sum := "5af738c6e3eca438f97b68879ec636cbec49ec43131f99c3f2037c2cbb439f67", func := "redress/redresslaw03.RowNodes", spec := "rowNodes", unfollowed := true, recurses := true, apart := false }
def RowNodesSaid : Prop := rowNodesRow.holds Try.pinned (OpenSpec.ofChange rowNodesSpec)

/-- ITS FALSE NEIGHBOUR: 'it returns false'. Refute it at one input. -/
def rowNodesWrong : ChangeSpec := { name := "rowNodes", fn := fun _ => fun
  | [d] => { results := [.lit (.bool false)], args := [d] }
  | _ => none }
def RowNodesWrongFalsely : Prop := rowNodesRow.holds Try.pinned (OpenSpec.ofChange rowNodesWrong)

/-- 'redresslaw03.RowTrees': WHATEVER THE INPUT: true; the input reads as it did. -/
def rowTreesSpec : ChangeSpec := { name := "rowTrees", fn := fun _ => fun
  | [d] => { results := [.lit (.bool true)], args := [d] }
  | _ => none }
def rowTreesRow : OpenClaim := { program := "ytonhnajmofkcnaa", sum := "5af738c6e3eca438f97b68879ec636cbec49ec43131f99c3f2037c2cbb439f67", func := "redress/redresslaw03.RowTrees", spec := "rowTrees", unfollowed := true, recurses := true, apart := false }
def RowTreesSaid : Prop := rowTreesRow.holds Try.pinned (OpenSpec.ofChange rowTreesSpec)

/-- ITS FALSE NEIGHBOUR: 'it returns false'. Refute it at one input. -/
def rowTreesWrong : ChangeSpec := { name := "rowTrees", fn := fun _ => fun
  | [d] => { results := [.lit (.bool false)], args := [d] }
  | _ => none }
def RowTreesWrongFalsely : Prop := rowTreesRow.holds Try.pinned (OpenSpec.ofChange rowTreesWrong)

/-- 'redresslaw03.RowKids': WHATEVER THE INPUT: true; the input reads as it did. -/
def rowKidsSpec : ChangeSpec := { name := "rowKids", fn := fun _ => fun
  | [d] => { results := [.lit (.bool true)], args := [d] }
  | _ => none }
def rowKidsRow : OpenClaim := { program := "ytonhnajmofkcnaa", sum := "5af738c6e3eca438f97b68879ec636cbec49ec43131f99c3f2037c2cbb439f67", func := "redress/redresslaw03.RowKids", spec := "rowKids", unfollowed := true, recurses := true, apart := false }
def RowKidsSaid : Prop := rowKidsRow.holds Try.pinned (OpenSpec.ofChange rowKidsSpec)

/-- ITS FALSE NEIGHBOUR: 'it returns false'. Refute it at one input. -/
def rowKidsWrong : ChangeSpec := { name := "rowKids", fn := fun _ => fun
  | [d] => { results := [.lit (.bool false)], args := [d] }
  | _ => none }
def RowKidsWrongFalsely : Prop := rowKidsRow.holds Try.pinned (OpenSpec.ofChange rowKidsWrong)

/-- 'redresslaw03.RowMakes': WHATEVER THE INPUT: true; the input reads as it did. -/
def rowMakesSpec : ChangeSpec := { name := "rowMakes", fn := fun _ => fun
  | [d1, d2, d3] => { results := [.lit (.bool true)], args := [d1, d2, d3] }
  | _ => none }
def rowMakesRow : OpenClaim := { program := "ytonhnajmofkcnaa", sum := "5af738c6e3eca438f97b68879ec636cbec49ec43131f99c3f2037c2cbb439f67", func := "redress/redresslaw03.RowMakes", spec := "rowMakes", unfollowed := true, recurses := true, apart := false }
def RowMakesSaid : Prop := rowMakesRow.holds Try.pinned (OpenSpec.ofChange rowMakesSpec)

/-- ITS FALSE NEIGHBOUR: 'it returns false'. Refute it at one input. -/
def rowMakesWrong : ChangeSpec := { name := "rowMakes", fn := fun _ => fun
  | [d1, d2, d3] => { results := [.lit (.bool false)], args := [d1, d2, d3] }
  | _ => none }
def RowMakesWrongFalsely : Prop := rowMakesRow.holds Try.pinned (OpenSpec.ofChange rowMakesWrong)

/-- 'redresslaw03.RowCounts': WHATEVER THE INPUT: true; the input reads as it did. -/
def rowCountsSpec : ChangeSpec := { name := "rowCounts", fn := fun _ => fun
  | [d1, d2, d3] => { results := [.lit (.bool true)], args := [d1, d2, d3] }
  | _ => none }
def rowCountsRow : OpenClaim := { program := "ytonhnajmofkcnaa", sum := "5af738c6e3eca438f97b68879ec636cbec49ec43131f99c3f2037c2cbb439f67", func := "redress/redresslaw03.RowCounts", spec := "rowCounts", unfollowed := true, recurses := true, apart := false }
def RowCountsSaid : Prop := rowCountsRow.holds Try.pinned (OpenSpec.ofChange rowCountsSpec)

/-- ITS FALSE NEIGHBOUR: 'it returns false'. Refute it at one input. -/
def rowCountsWrong : ChangeSpec := { name := "rowCounts", fn := fun _ => fun
  | [d1, d2, d3] => { results := [.lit (.bool false)], args := [d1, d2, d3] }
  | _ => none }
def RowCountsWrongFalsely : Prop := rowCountsRow.holds Try.pinned (OpenSpec.ofChange rowCountsWrong)

/-- 'redresslaw03.RowDeep': WHATEVER THE INPUT: true; the input reads as it did. -/
def rowDeepSpec : ChangeSpec := { name := "rowDeep", fn := fun _ => fun
  | [d] => { results := [.lit (.bool true)], args := [d] }
  | _ => none }
def rowDeepRow : OpenClaim := { program := "ytonhnajmofkcnaa", sum := "5af738c6e3eca438f97b68879ec636cbec49ec43131f99c3f2037c2cbb439f67", func := "redress/redresslaw03.RowDeep", spec := "rowDeep", unfollowed := true, recurses := true, apart := false }
def RowDeepSaid : Prop := rowDeepRow.holds Try.pinned (OpenSpec.ofChange rowDeepSpec)

/-- ITS FALSE NEIGHBOUR: 'it returns false'. Refute it at one input. -/
def rowDeepWrong : ChangeSpec := { name := "rowDeep", fn := fun _ => fun
  | [d] => { results := [.lit (.bool false)], args := [d] }
  | _ => none }
def RowDeepWrongFalsely : Prop := rowDeepRow.holds Try.pinned (OpenSpec.ofChange rowDeepWrong)

/- THE SECOND FORM. 'bulk': how many values and letters a reading holds, each counted each time it is reached (what is shared counts as often as it is met; a slice's spare places count too). A statement '..UptoSaid' is the law's where the arguments, and the package variables that the reading takes, are together of bulk at most 1048576: NARROWER than '..Said'. Prove '..Said' where nothing that the law and all that it calls make is longer than what came in: it says more and counts as full. Else prove '..UptoSaid'. A law counts once. -/
mutual
def uptoBulk {H : Type} : DataW H → Nat
  | .lit (.string bytes) => bytes.length + 1
  | .lit _ => 1
  | .nil => 1
  | .ptr d => uptoBulk d + 1
  | .slice elems spare => uptoBulkAll elems + uptoBulkAll spare + 1
  | .agg parts => uptoBulkAll parts + 1
  | .iface _ d => uptoBulk d + 1
  | .map entries => uptoBulkEntries entries + 1
  | .held _ => 1
def uptoBulkAll {H : Type} : List (DataW H) → Nat
  | [] => 0
  | d :: r => uptoBulk d + uptoBulkAll r
def uptoBulkEntries {H : Type} : List (Lit × DataW H) → Nat
  | [] => 0
  | x :: r => uptoBulkEntry x + uptoBulkEntries r
def uptoBulkEntry {H : Type} : Lit × DataW H → Nat
  | (.string bytes, d) => bytes.length + uptoBulk d + 1
  | (_, d) => uptoBulk d + 1
 end
def uptoSmall : (H : Type) → List (DataW H) → Bool := fun _ ds => decide (uptoBulkAll ds ≤ 1048576)
def OpenSpec.upto (s : _root_.Go.ChangeSpec) : _root_.Go.OpenSpec := { _root_.Go.OpenSpec.ofChange s with cond := some uptoSmall }

/-- 'redresslaw03.RowNodes', WHERE WHAT IT READS IS OF BULK AT MOST 1048576: true; the input reads as it did. -/
def rowNodesUptoRow : OpenClaim := { program := "ytonhnajmofkcnaa", sum := "5af738c6e3eca438f97b68879ec636cbec49ec43131f99c3f2037c2cbb439f67", func := "redress/redresslaw03.RowNodes", spec := "rowNodes", unfollowed := true, recurses := true, apart := false, narrowed := true }
def RowNodesUptoSaid : Prop := rowNodesUptoRow.holds Try.pinned (OpenSpec.upto rowNodesSpec)

/-- 'redresslaw03.RowTrees', WHERE WHAT IT READS IS OF BULK AT MOST 1048576: true; the input reads as it did. -/
def rowTreesUptoRow : OpenClaim := { program := "ytonhnajmofkcnaa", sum := "5af738c6e3eca438f97b68879ec636cbec49ec43131f99c3f2037c2cbb439f67", func := "redress/redresslaw03.RowTrees", spec := "rowTrees", unfollowed := true, recurses := true, apart := false, narrowed := true }
def RowTreesUptoSaid : Prop := rowTreesUptoRow.holds Try.pinned (OpenSpec.upto rowTreesSpec)

/-- 'redresslaw03.RowKids', WHERE WHAT IT READS IS OF BULK AT MOST 1048576: true; the input reads as it did. -/
def rowKidsUptoRow : OpenClaim := { program := "ytonhnajmofkcnaa", sum := "5af738c6e3eca438f97b68879ec636cbec49ec43131f99c3f2037c2cbb439f67", func := "redress/redresslaw03.RowKids", spec := "rowKids", unfollowed := true, recurses := true, apart := false, narrowed := true }
def RowKidsUptoSaid : Prop := rowKidsUptoRow.holds Try.pinned (OpenSpec.upto rowKidsSpec)

/-- 'redresslaw03.RowMakes', WHERE WHAT IT READS IS OF BULK AT MOST 1048576: true; the input reads as it did. -/
def rowMakesUptoRow : OpenClaim := { program := "ytonhnajmofkcnaa", sum := "5af738c6e3eca438f97b68879ec636cbec49ec43131f99c3f2037c2cbb439f67", func := "redress/redresslaw03.RowMakes", spec := "rowMakes", unfollowed := true, recurses := true, apart := false, narrowed := true }
def RowMakesUptoSaid : Prop := rowMakesUptoRow.holds Try.pinned (OpenSpec.upto rowMakesSpec)

/-- 'redresslaw03.RowCounts', WHERE WHAT IT READS IS OF BULK AT MOST 1048576: true; the input reads as it did. -/
def rowCountsUptoRow : OpenClaim := { program := "ytonhnajmofkcnaa", sum := "5af738c6e3eca438f97b68879ec636cbec49ec43131f99c3f2037c2cbb439f67", func := "redress/redresslaw03.RowCounts", spec := "rowCounts", unfollowed := true, recurses := true, apart := false, narrowed := true }
def RowCountsUptoSaid : Prop := rowCountsUptoRow.holds Try.pinned (OpenSpec.upto rowCountsSpec)

/-- 'redresslaw03.RowDeep', WHERE WHAT IT READS IS OF BULK AT MOST 1048576: true; the input reads as it did. -/
def rowDeepUptoRow : OpenClaim := { program := "ytonhnajmofkcnaa", sum := "5af738c6e3eca438f97b68879ec636cbec49ec43131f99c3f2037c2cbb439f67", func := "redress/redresslaw03.RowDeep", spec := "rowDeep", unfollowed := true, recurses := true, apart := false, narrowed := true }
def RowDeepUptoSaid : Prop := rowDeepUptoRow.holds Try.pinned (OpenSpec.upto rowDeepSpec)

end Rows
end Go.Proofs.Ytonhnajmofkcnaa
