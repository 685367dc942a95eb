/-
  No cell of these rows narrows 'for every input' (looked for: loops, veiled, ifaces, maps, wideKeys, modest, calm, conditions, laid).
  DERIVED. THE GIVEN ROWS OF THIS SEAT. 6 by the template 'for every input the law returns true; each argument reads behind the call as it read before'; 0 by the template 'total and deterministic' (their statements: YtcgbbhnhpkkomaaTotals.lean).
  GIVEN WITH THE SEED: the statements are not yours to turn. If you find one false, say at which input.
  Laid BY PROGRAM, IN A SANDBOX (cutbox-rows.mjs): the forced cells as the released guide's own fill.sh prints them over the translation 5d4083fcf896e6b6… (all of the seat's roots in one cut). By AI agents, Wed Nov 11 2026. No macro, syntax, notation, axiom, sorry.
-/
import Derived.Test.YtcgbbhnhpkkomaaChecked
import GoSem.Claim
import GoSem.ClaimJoined
import GoSem.ClaimMapViews
import Derived.JoinedTies
import Derived.KernelRfl
namespace Go.Proofs.Ytcgbbhnhpkkomaa
/- THE CELL 'sum', in the pinned program and in every row, IS THE sha256 OF THE DUMP (.gsa) THAT YtcgbbhnhpkkomaaProg.lean LOADS. Nothing in Lean hashes anything: it is a label: what it is worth is what the hold of that sum in a sandbox is worth. -/
noncomputable def Try.pinned : Pinned := { name := "ytcgbbhnhpkkomaa", sum := "5d4083fcf896e6b6bb900ce5169a8e7fb49c79f750a132749f65e876d58058a7", checked := Try.checked }
namespace Rows
def none {H : Type} : Left H := { results := [], args := [] }

/-- 'redresslaw04.SortOf': WHATEVER THE INPUT: true; the input reads as it did. -/
def sortOfSpec : ChangeSpec := { name := "sortOf", fn := fun _ => fun
  | [d] => { results := [.lit (.bool true)], args := [d] }
  | _ => none }
def sortOfRow : OpenClaim := { program := "ytcgbbhnhpkkomaa", sum := "5d4083fcf896e6b6bb900ce5169a8e7fb49c79f750a132749f65e876d58058a7", func := "redress/redresslaw04.SortOf", spec := "sortOf", unfollowed := true, recurses := true, apart := false }
def SortOfSaid : Prop := sortOfRow.holds Try.pinned (OpenSpec.ofChange sortOfSpec)

/-- ITS FALSE NEIGHBOUR: 'it returns false'. Refute it at one input. -/
def sortOfWrong : ChangeSpec := { name := "sortOf", fn := fun _ => fun
  | [d] => { results := [.lit (.bool false)], args := [d] }
  | _ => none }
def SortOfWrongFalsely : Prop := sortOfRow.holds Try.pinned (OpenSpec.ofChange sortOfWrong)

/-- 'redresslaw04.SortRight': WHATEVER THE INPUT: true; the input reads as it did. -/
def sortRightSpec : ChangeSpec := { name := "sortRight", fn := fun _ => fun
  | [d] => { results := [.lit (.bool true)], args := [d] }
  | _ => none }
def sortRightRow : OpenClaim := { program := "ytcgbbhnhpkkomaa", sum := "5d4083fcf896e6b6bb900ce5169a8e7fb49c79f750a132749f65e876d58058a7", func := "redress/redresslaw04.SortRight", spec := "sortRight", unfollowed := true, recurses := true, apart := false }
def SortRightSaid : Prop := sortRightRow.holds Try.pinned (OpenSpec.ofChange sortRightSpec)

/-- ITS FALSE NEIGHBOUR: 'it returns false'. Refute it at one input. -/
def sortRightWrong : ChangeSpec := { name := "sortRight", fn := fun _ => fun
  | [d] => { results := [.lit (.bool false)], args := [d] }
  | _ => none }
def SortRightWrongFalsely : Prop := sortRightRow.holds Try.pinned (OpenSpec.ofChange sortRightWrong)

/-- 'redresslaw04.SortOne': WHATEVER THE INPUT: true; the input reads as it did. -/
def sortOneSpec : ChangeSpec := { name := "sortOne", fn := fun _ => fun
  | [d] => { results := [.lit (.bool true)], args := [d] }
  | _ => none }
def sortOneRow : OpenClaim := { program := "ytcgbbhnhpkkomaa", sum := "5d4083fcf896e6b6bb900ce5169a8e7fb49c79f750a132749f65e876d58058a7", func := "redress/redresslaw04.SortOne", spec := "sortOne", unfollowed := true, recurses := true, apart := false }
def SortOneSaid : Prop := sortOneRow.holds Try.pinned (OpenSpec.ofChange sortOneSpec)

/-- ITS FALSE NEIGHBOUR: 'it returns false'. Refute it at one input. -/
def sortOneWrong : ChangeSpec := { name := "sortOne", fn := fun _ => fun
  | [d] => { results := [.lit (.bool false)], args := [d] }
  | _ => none }
def SortOneWrongFalsely : Prop := sortOneRow.holds Try.pinned (OpenSpec.ofChange sortOneWrong)

/-- 'redresslaw04.SortMakes': WHATEVER THE INPUT: true; the input reads as it did. -/
def sortMakesSpec : ChangeSpec := { name := "sortMakes", fn := fun _ => fun
  | [d1, d2] => { results := [.lit (.bool true)], args := [d1, d2] }
  | _ => none }
def sortMakesRow : OpenClaim := { program := "ytcgbbhnhpkkomaa", sum := "5d4083fcf896e6b6bb900ce5169a8e7fb49c79f750a132749f65e876d58058a7", func := "redress/redresslaw04.SortMakes", spec := "sortMakes", unfollowed := true, recurses := true, apart := false }
def SortMakesSaid : Prop := sortMakesRow.holds Try.pinned (OpenSpec.ofChange sortMakesSpec)

/-- ITS FALSE NEIGHBOUR: 'it returns false'. Refute it at one input. -/
def sortMakesWrong : ChangeSpec := { name := "sortMakes", fn := fun _ => fun
  | [d1, d2] => { results := [.lit (.bool false)], args := [d1, d2] }
  | _ => none }
def SortMakesWrongFalsely : Prop := sortMakesRow.holds Try.pinned (OpenSpec.ofChange sortMakesWrong)

/-- 'redresslaw04.SortKids': WHATEVER THE INPUT: true; the input reads as it did. -/
def sortKidsSpec : ChangeSpec := { name := "sortKids", fn := fun _ => fun
  | [d] => { results := [.lit (.bool true)], args := [d] }
  | _ => none }
def sortKidsRow : OpenClaim := { program := "ytcgbbhnhpkkomaa", sum := "5d4083fcf896e6b6bb900ce5169a8e7fb49c79f750a132749f65e876d58058a7", func := "redress/redresslaw04.SortKids", spec := "sortKids", unfollowed := true, recurses := true, apart := false }
def SortKidsSaid : Prop := sortKidsRow.holds Try.pinned (OpenSpec.ofChange sortKidsSpec)

/-- ITS FALSE NEIGHBOUR: 'it returns false'. Refute it at one input. -/
def sortKidsWrong : ChangeSpec := { name := "sortKids", fn := fun _ => fun
  | [d] => { results := [.lit (.bool false)], args := [d] }
  | _ => none }
def SortKidsWrongFalsely : Prop := sortKidsRow.holds Try.pinned (OpenSpec.ofChange sortKidsWrong)

/-- 'redresslaw04.SortBlocks': WHATEVER THE INPUT: true; the input reads as it did. -/
def sortBlocksSpec : ChangeSpec := { name := "sortBlocks", fn := fun _ => fun
  | [d] => { results := [.lit (.bool true)], args := [d] }
  | _ => none }
def sortBlocksRow : OpenClaim := { program := "ytcgbbhnhpkkomaa", sum := "5d4083fcf896e6b6bb900ce5169a8e7fb49c79f750a132749f65e876d58058a7", func := "redress/redresslaw04.SortBlocks", spec := "sortBlocks", unfollowed := true, recurses := true, apart := false }
def SortBlocksSaid : Prop := sortBlocksRow.holds Try.pinned (OpenSpec.ofChange sortBlocksSpec)

/-- ITS FALSE NEIGHBOUR: 'it returns false'. Refute it at one input. -/
def sortBlocksWrong : ChangeSpec := { name := "sortBlocks", fn := fun _ => fun
  | [d] => { results := [.lit (.bool false)], args := [d] }
  | _ => none }
def SortBlocksWrongFalsely : Prop := sortBlocksRow.holds Try.pinned (OpenSpec.ofChange sortBlocksWrong)

/- THE SECOND FORM. 'bulk': how many values and letters a reading holds, each counted each time it is reached (what is shared counts as often as it is met; a slice's spare places count too). A statement '..UptoSaid' is the law's where the arguments, and the package variables that the reading takes, are together of bulk at most 1048576: NARROWER than '..Said'. Prove '..Said' where nothing that the law and all that it calls make is longer than what came in: it says more and counts as full. Else prove '..UptoSaid'. A law counts once. -/
mutual
def uptoBulk {H : Type} : DataW H → Nat
  | .lit (.string bytes) => bytes.length + 1
  | .lit _ => 1
  | .nil => 1
  | .ptr d => uptoBulk d + 1
  | .slice elems spare => uptoBulkAll elems + uptoBulkAll spare + 1
  | .agg parts => uptoBulkAll parts + 1
  | .iface _ d => uptoBulk d + 1
  | .map entries => uptoBulkEntries entries + 1
  | .held _ => 1
def uptoBulkAll {H : Type} : List (DataW H) → Nat
  | [] => 0
  | d :: r => uptoBulk d + uptoBulkAll r
def uptoBulkEntries {H : Type} : List (Lit × DataW H) → Nat
  | [] => 0
  | x :: r => uptoBulkEntry x + uptoBulkEntries r
def uptoBulkEntry {H : Type} : Lit × DataW H → Nat
  | (.string bytes, d) => bytes.length + uptoBulk d + 1
  | (_, d) => uptoBulk d + 1
 end
def uptoSmall : (H : Type) → List (DataW H) → Bool := fun _ ds => decide (uptoBulkAll ds ≤ 1048576)
def OpenSpec.upto (s : _root_.Go.ChangeSpec) : _root_.Go.OpenSpec := { _root_.Go.OpenSpec.ofChange s with cond := some uptoSmall }

/-- 'redresslaw04.SortOf', WHERE WHAT IT READS IS OF BULK AT MOST 1048576: true; the input reads as it did. -/
def sortOfUptoRow : OpenClaim := { program := "ytcgbbhnhpkkomaa", sum := "5d4083fcf896e6b6bb900ce5169a8e7fb49c79f750a132749f65e876d58058a7", func := "redress/redresslaw04.SortOf", spec := "sortOf", unfollowed := true, recurses := true, apart := false, narrowed := true }
def SortOfUptoSaid : Prop := sortOfUptoRow.holds Try.pinned (OpenSpec.upto sortOfSpec)

/-- 'redresslaw04.SortRight', WHERE WHAT IT READS IS OF BULK AT MOST 1048576: true; the input reads as it did. -/
def sortRightUptoRow : OpenClaim := { program := "ytcgbbhnhpkkomaa", sum := "5d4083fcf896e6b6bb900ce5169a8e7fb49c79f750a132749f65e876d58058a7", func := "redress/redresslaw04.SortRight", spec := "sortRight", unfollowed := true, recurses := true, apart := false, narrowed := true }
def SortRightUptoSaid : Prop := sortRightUptoRow.holds Try.pinned (OpenSpec.upto sortRightSpec)

/-- 'redresslaw04.SortOne', WHERE WHAT IT READS IS OF BULK AT MOST 1048576: true; the input reads as it did. -/
def sortOneUptoRow : OpenClaim := { program := "ytcgbbhnhpkkomaa", sum := "5d4083fcf896e6b6bb900ce5169a8e7fb49c79f750a132749f65e876d58058a7", func := "redress/redresslaw04.SortOne", spec := "sortOne", unfollowed := true, recurses := true, apart := false, narrowed := true }
def SortOneUptoSaid : Prop := sortOneUptoRow.holds Try.pinned (OpenSpec.upto sortOneSpec)

/-- 'redresslaw04.SortMakes', WHERE WHAT IT READS IS OF BULK AT MOST 1048576: true; the input reads as it did. -/
def sortMakesUptoRow : OpenClaim := { program := "ytcgbbhnhpkkomaa", sum := "5d4083fcf896e6b6bb900ce5169a8e7fb49c79f750a132749f65e876d58058a7", func := "redress/redresslaw04.SortMakes", spec := "sortMakes", unfollowed := true, recurses := true, apart := false, narrowed := true }
def SortMakesUptoSaid : Prop := sortMakesUptoRow.holds Try.pinned (OpenSpec.upto sortMakesSpec)

/-- 'redresslaw04.SortKids', WHERE WHAT IT READS IS OF BULK AT MOST 1048576: true; the input reads as it did. -/
def sortKidsUptoRow : OpenClaim := { program := "ytcgbbhnhpkkomaa", sum := "5d4083fcf896e6b6bb900ce5169a8e7fb49c79f750a132749f65e876d58058a7", func := "redress/redresslaw04.SortKids", spec := "sortKids", unfollowed := true, recurses := true, apart := false, narrowed := true }
def SortKidsUptoSaid : Prop := sortKidsUptoRow.holds Try.pinned (OpenSpec.upto sortKidsSpec)

/-- 'redresslaw04.SortBlocks', WHERE WHAT IT READS IS OF BULK AT MOST 1048576: true; the input reads as it did. -/
def sortBlocksUptoRow : OpenClaim := { program := "ytcgbbhnhpkkomaa", sum := "5d4083fcf896e6b6bb900ce5169a8e7fb49c79f750a132749f65e876d58058a7", func := "redress/redresslaw04.SortBlocks", spec := "sortBlocks", unfollowed := true, recurses := true, apart := false, narrowed := true }
def SortBlocksUptoSaid : Prop := sortBlocksUptoRow.holds Try.pinned (OpenSpec.upto sortBlocksSpec)

end Rows
end Go.Proofs.Ytcgbbhnhpkkomaa
