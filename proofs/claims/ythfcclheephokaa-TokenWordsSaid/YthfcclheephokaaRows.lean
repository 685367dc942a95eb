/-
  No cell of these rows narrows 'for every input' (looked for: loops, veiled, ifaces, maps, wideKeys, modest, calm, conditions, laid).
  DERIVED. THE GIVEN ROWS OF THIS SEAT. 6 by the template 'for every input the law returns true; each argument reads behind the call as it read before'; 0 by the template 'total and deterministic' (their statements: YthfcclheephokaaTotals.lean).
  GIVEN WITH THE SEED: the statements are not yours to turn. If you find one false, say at which input.
  Laid BY PROGRAM, IN A SANDBOX (cutbox-rows.mjs): the forced cells as the released guide's own fill.sh prints them over the translation 79e1f80db94c229d… (all of the seat's roots in one cut). By AI agents, Wed Nov 11 2026. No macro, syntax, notation, axiom, sorry.
-/
import Derived.Test.YthfcclheephokaaChecked
import GoSem.Claim
import GoSem.ClaimJoined
import GoSem.ClaimMapViews
import Derived.JoinedTies
import Derived.KernelRfl
namespace Go.Proofs.Ythfcclheephokaa
/- THE CELL 'sum', in the pinned program and in every row, IS THE sha256 OF THE DUMP (.gsa) THAT YthfcclheephokaaProg.lean LOADS. Nothing in Lean hashes anything: it is a label: what it is worth is what the hold of that sum in a sandbox is worth. -/
noncomputable def Try.pinned : Pinned := { name := "ythfcclheephokaa", sum := "79e1f80db94c229d12814442eca3e225bc9141983aa30511e1fe38d3f8d8053e", checked := Try.checked }
namespace Rows
def none {H : Type} : Left H := { results := [], args := [] }

/-- 'redresslaw05.TokenLexes': WHATEVER THE INPUT: true; the input reads as it did. -/
def tokenLexesSpec : ChangeSpec := { name := "tokenLexes", fn := fun _ => fun
  | [d] => { results := [.lit (.bool true)], args := [d] }
  | _ => none }
def tokenLexesRow : OpenClaim := { program := "ythfcclheephokaa", sum := "79e1f80db94c229d12814442eca3e225bc9141983aa30511e1fe38d3f8d8053e", func := "redress/redresslaw05.TokenLexes", spec := "tokenLexes", apart := false }
def TokenLexesSaid : Prop := tokenLexesRow.holds Try.pinned (OpenSpec.ofChange tokenLexesSpec)

/-- ITS FALSE NEIGHBOUR: 'it returns false'. Refute it at one input. -/
def tokenLexesWrong : ChangeSpec := { name := "tokenLexes", fn := fun _ => fun
  | [d] => { results := [.lit (.bool false)], args := [d] }
  | _ => none }
def TokenLexesWrongFalsely : Prop := tokenLexesRow.holds Try.pinned (OpenSpec.ofChange tokenLexesWrong)

/-- 'redresslaw05.TokenPrints': WHATEVER THE INPUT: true; the input reads as it did. -/
def tokenPrintsSpec : ChangeSpec := { name := "tokenPrints", fn := fun _ => fun
  | [d] => { results := [.lit (.bool true)], args := [d] }
  | _ => none }
def tokenPrintsRow : OpenClaim := { program := "ythfcclheephokaa", sum := "79e1f80db94c229d12814442eca3e225bc9141983aa30511e1fe38d3f8d8053e", func := "redress/redresslaw05.TokenPrints", spec := "tokenPrints", apart := false }
def TokenPrintsSaid : Prop := tokenPrintsRow.holds Try.pinned (OpenSpec.ofChange tokenPrintsSpec)

/-- ITS FALSE NEIGHBOUR: 'it returns false'. Refute it at one input. -/
def tokenPrintsWrong : ChangeSpec := { name := "tokenPrints", fn := fun _ => fun
  | [d] => { results := [.lit (.bool false)], args := [d] }
  | _ => none }
def TokenPrintsWrongFalsely : Prop := tokenPrintsRow.holds Try.pinned (OpenSpec.ofChange tokenPrintsWrong)

/-- 'redresslaw05.TokenRows': WHATEVER THE INPUT: true; the input reads as it did. -/
def tokenRowsSpec : ChangeSpec := { name := "tokenRows", fn := fun _ => fun
  | [d1, d2] => { results := [.lit (.bool true)], args := [d1, d2] }
  | _ => none }
def tokenRowsRow : OpenClaim := { program := "ythfcclheephokaa", sum := "79e1f80db94c229d12814442eca3e225bc9141983aa30511e1fe38d3f8d8053e", func := "redress/redresslaw05.TokenRows", spec := "tokenRows", apart := false }
def TokenRowsSaid : Prop := tokenRowsRow.holds Try.pinned (OpenSpec.ofChange tokenRowsSpec)

/-- ITS FALSE NEIGHBOUR: 'it returns false'. Refute it at one input. -/
def tokenRowsWrong : ChangeSpec := { name := "tokenRows", fn := fun _ => fun
  | [d1, d2] => { results := [.lit (.bool false)], args := [d1, d2] }
  | _ => none }
def TokenRowsWrongFalsely : Prop := tokenRowsRow.holds Try.pinned (OpenSpec.ofChange tokenRowsWrong)

/-- 'redresslaw05.TokenAgain': WHATEVER THE INPUT: true; the input reads as it did. -/
def tokenAgainSpec : ChangeSpec := { name := "tokenAgain", fn := fun _ => fun
  | [d] => { results := [.lit (.bool true)], args := [d] }
  | _ => none }
def tokenAgainRow : OpenClaim := { program := "ythfcclheephokaa", sum := "79e1f80db94c229d12814442eca3e225bc9141983aa30511e1fe38d3f8d8053e", func := "redress/redresslaw05.TokenAgain", spec := "tokenAgain", apart := false }
def TokenAgainSaid : Prop := tokenAgainRow.holds Try.pinned (OpenSpec.ofChange tokenAgainSpec)

/-- ITS FALSE NEIGHBOUR: 'it returns false'. Refute it at one input. -/
def tokenAgainWrong : ChangeSpec := { name := "tokenAgain", fn := fun _ => fun
  | [d] => { results := [.lit (.bool false)], args := [d] }
  | _ => none }
def TokenAgainWrongFalsely : Prop := tokenAgainRow.holds Try.pinned (OpenSpec.ofChange tokenAgainWrong)

/-- 'redresslaw05.TokenHead': WHATEVER THE INPUT: true; the input reads as it did. -/
def tokenHeadSpec : ChangeSpec := { name := "tokenHead", fn := fun _ => fun
  | [d1, d2] => { results := [.lit (.bool true)], args := [d1, d2] }
  | _ => none }
def tokenHeadRow : OpenClaim := { program := "ythfcclheephokaa", sum := "79e1f80db94c229d12814442eca3e225bc9141983aa30511e1fe38d3f8d8053e", func := "redress/redresslaw05.TokenHead", spec := "tokenHead", apart := false }
def TokenHeadSaid : Prop := tokenHeadRow.holds Try.pinned (OpenSpec.ofChange tokenHeadSpec)

/-- ITS FALSE NEIGHBOUR: 'it returns false'. Refute it at one input. -/
def tokenHeadWrong : ChangeSpec := { name := "tokenHead", fn := fun _ => fun
  | [d1, d2] => { results := [.lit (.bool false)], args := [d1, d2] }
  | _ => none }
def TokenHeadWrongFalsely : Prop := tokenHeadRow.holds Try.pinned (OpenSpec.ofChange tokenHeadWrong)

/-- 'redresslaw05.TokenWords': WHATEVER THE INPUT: true; the input reads as it did. -/
def tokenWordsSpec : ChangeSpec := { name := "tokenWords", fn := fun _ => fun
  | [d] => { results := [.lit (.bool true)], args := [d] }
  | _ => none }
def tokenWordsRow : OpenClaim := { program := "ythfcclheephokaa", sum := "79e1f80db94c229d12814442eca3e225bc9141983aa30511e1fe38d3f8d8053e", func := "redress/redresslaw05.TokenWords", spec := "tokenWords", apart := false }
def TokenWordsSaid : Prop := tokenWordsRow.holds Try.pinned (OpenSpec.ofChange tokenWordsSpec)

/-- ITS FALSE NEIGHBOUR: 'it returns false'. Refute it at one input. -/
def tokenWordsWrong : ChangeSpec := { name := "tokenWords", fn := fun _ => fun
  | [d] => { results := [.lit (.bool false)], args := [d] }
  | _ => none }
def TokenWordsWrongFalsely : Prop := tokenWordsRow.holds Try.pinned (OpenSpec.ofChange tokenWordsWrong)

/- THE SECOND FORM. 'bulk': how many values and letters a reading holds, each counted each time it is reached (what is shared counts as often as it is met; a slice's spare places count too). A statement '..UptoSaid' is the law's where the arguments, and the package variables that the reading takes, are together of bulk at most 1048576: NARROWER than '..Said'. Prove '..Said' where nothing that the law and all that it calls make is longer than what came in: it says more and counts as full. Else prove '..UptoSaid'. A law counts once. -/
mutual
def uptoBulk {H : Type} : DataW H → Nat
  | .lit (.string bytes) => bytes.length + 1
  | .lit _ => 1
  | .nil => 1
  | .ptr d => uptoBulk d + 1
  | .slice elems spare => uptoBulkAll elems + uptoBulkAll spare + 1
  | .agg parts => uptoBulkAll parts + 1
  | .iface _ d => uptoBulk d + 1
  | .map entries => uptoBulkEntries entries + 1
  | .held _ => 1
def uptoBulkAll {H : Type} : List (DataW H) → Nat
  | [] => 0
  | d :: r => uptoBulk d + uptoBulkAll r
def uptoBulkEntries {H : Type} : List (Lit × DataW H) → Nat
  | [] => 0
  | x :: r => uptoBulkEntry x + uptoBulkEntries r
def uptoBulkEntry {H : Type} : Lit × DataW H → Nat
  | (.string bytes, d) => bytes.length + uptoBulk d + 1
  | (_, d) => uptoBulk d + 1
 end
def uptoSmall : (H : Type) → List (DataW H) → Bool := fun _ ds => decide (uptoBulkAll ds ≤ 1048576)
def OpenSpec.upto (s : _root_.Go.ChangeSpec) : _root_.Go.OpenSpec := { _root_.Go.OpenSpec.ofChange s with cond := some uptoSmall }

/-- 'redresslaw05.TokenLexes', WHERE WHAT IT READS IS OF BULK AT MOST 1048576: true; the input reads as it did. -/
def tokenLexesUptoRow : OpenClaim := { program := "ythfcclheephokaa", sum := "79e1f80db94c229d12814442eca3e225bc9141983aa30511e1fe38d3f8d8053e", func := "redress/redresslaw05.TokenLexes", spec := "tokenLexes", apart := false, narrowed := true }
def TokenLexesUptoSaid : Prop := tokenLexesUptoRow.holds Try.pinned (OpenSpec.upto tokenLexesSpec)

/-- 'redresslaw05.TokenPrints', WHERE WHAT IT READS IS OF BULK AT MOST 1048576: true; the input reads as it did. -/
def tokenPrintsUptoRow : OpenClaim := { program := "ythfcclheephokaa", sum := "79e1f80db94c229d12814442eca3e225bc9141983aa30511e1fe38d3f8d8053e", func := "redress/redresslaw05.TokenPrints", spec := "tokenPrints", apart := false, narrowed := true }
def TokenPrintsUptoSaid : Prop := tokenPrintsUptoRow.holds Try.pinned (OpenSpec.upto tokenPrintsSpec)

/-- 'redresslaw05.TokenRows', WHERE WHAT IT READS IS OF BULK AT MOST 1048576: true; the input reads as it did. -/
def tokenRowsUptoRow : OpenClaim := { program := "ythfcclheephokaa", sum := "79e1f80db94c229d12814442eca3e225bc9141983aa30511e1fe38d3f8d8053e", func := "redress/redresslaw05.TokenRows", spec := "tokenRows", apart := false, narrowed := true }
def TokenRowsUptoSaid : Prop := tokenRowsUptoRow.holds Try.pinned (OpenSpec.upto tokenRowsSpec)

/-- 'redresslaw05.TokenAgain', WHERE WHAT IT READS IS OF BULK AT MOST 1048576: true; the input reads as it did. -/
def tokenAgainUptoRow : OpenClaim := { program := "ythfcclheephokaa", sum := "79e1f80db94c229d12814442eca3e225bc9141983aa30511e1fe38d3f8d8053e", func := "redress/redresslaw05.TokenAgain", spec := "tokenAgain", apart := false, narrowed := true }
def TokenAgainUptoSaid : Prop := tokenAgainUptoRow.holds Try.pinned (OpenSpec.upto tokenAgainSpec)

/-- 'redresslaw05.TokenHead', WHERE WHAT IT READS IS OF BULK AT MOST 1048576: true; the input reads as it did. -/
def tokenHeadUptoRow : OpenClaim := { program := "ythfcclheephokaa", sum := "79e1f80db94c229d12814442eca3e225bc9141983aa30511e1fe38d3f8d8053e", func := "redress/redresslaw05.TokenHead", spec := "tokenHead", apart := false, narrowed := true }
def TokenHeadUptoSaid : Prop := tokenHeadUptoRow.holds Try.pinned (OpenSpec.upto tokenHeadSpec)

/-- 'redresslaw05.TokenWords', WHERE WHAT IT READS IS OF BULK AT MOST 1048576: true; the input reads as it did. -/
def tokenWordsUptoRow : OpenClaim := { program := "ythfcclheephokaa", sum := "79e1f80db94c229d12814442eca3e225bc9141983aa30511e1fe38d3f8d8053e", func := "redress/redresslaw05.TokenWords", spec := "tokenWords", apart := false, narrowed := true }
def TokenWordsUptoSaid : Prop := tokenWordsUptoRow.holds Try.pinned (OpenSpec.upto tokenWordsSpec)

end Rows
end Go.Proofs.Ythfcclheephokaa
