/- The document's Kids. -/
import Derived.Test.YtpkbpooiaddcaaaRwt
namespace Go.Proofs.Ytpkbpooiaddcaaa.Rw
open Go Go.RowKit
set_option maxRecDepth 20000

/-- What the loop has made: the first k kids, in a row of its own. -/
def Made (w wr : World) (v : Value) (l : List Nd) (k p : Nat) : Prop := ∃ cs d, Far l 0 k p d ∧ wr.ownsRow w.heap.size 22 1 v k cs ∧ RwC w cs (kidsN k (l.drop 1)) ∧ Below w.heap.size w wr
theorem Made.start (w : World) (l : List Nd) : Made w w (.slice none 0 0) l 0 1 := ⟨[], 0, Far.start l 0, ⟨rfl, .inl ⟨rfl, rfl⟩⟩, trivial, Below.refl _ _⟩
end Go.Proofs.Ytpkbpooiaddcaaa.Rw
