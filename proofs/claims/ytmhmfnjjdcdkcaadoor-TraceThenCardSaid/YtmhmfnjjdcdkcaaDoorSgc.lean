/- What the cards of the laws of signs share: the array of texts as the program's own text lays it, and a world that holds it. -/
import Derived.Test.YtmhmfnjjdcdkcaaDoorCards
import Derived.Test.YtmhmfnjjdcdkcaaDoorTie
import Derived.Test.YtmhmfnjjdcdkcaaDoorFr
import Derived.Test.YtmhmfnjjdcdkcaaDoorSgw
namespace Go.Proofs.YtmhmfnjjdcdkcaaDoor.Sg
open Go Go.ChangeShapes Go.WideShapes Go.ChangeAt Go.RowKit
open Go.ChangeMaps (open_string)

theorem own : ownKnob Tryd.prog.godebug = none := by kernel_rfl
theorem laidOut : laidOutB Tryd.prog = true := by kernel_rfl
theorem gTexts : Tryd.prog.globalNamed (Rows.traceOrderRow.named.headD "") = some 0 := by kernel_rfl
theorem tTexts : (Tryd.prog.globals[0]?).map (·.type) = some 100 := by kernel_rfl
theorem cStr : Tryd.prog.cellsOf 9 = 1 := by kernel_rfl
theorem cInt : Tryd.prog.cellsOf 3 = 1 := by kernel_rfl
theorem cTexts : Tryd.prog.cellsOf 100 = 4 := by kernel_rfl

/-- What is listed of the package's array. -/
abbrev laid : List (String × DataW Unit) := Rows.traceOrderRow.laid

/-- The list gives the walks the array. -/
theorem tab_of {W : World} (h : laidMetH Tryd.prog laid W) : Tab W := by
  rw [MakeChecks.laidMetH_plain _ _ _ (by kernel_rfl)] at h
  obtain ⟨ps, ⟨g, t, cs, fuel, p, q, hg, ht, hvar, hd, _, _⟩, _⟩ := h
  obtain rfl := Option.some.inj (gTexts.symm.trans hg)
  obtain rfl := Option.some.inj (tTexts.symm.trans ht)
  have hc := Fr.strs_cells (ss := [[], [111, 107], [33], [63]]) Tryd.underlying100 Tryd.underlying9 cStr cTexts hd
  obtain rfl : cs = cells := by cases cs; exact congrArg Array.mk hc
  simp only [World.var?, hg, Option.bind_some] at hvar
  unfold Tab
  split at hvar
  · rename_i c t fr hh
    cases hvar
    exact ⟨t, fr, hh⟩
  · cases hvar

/-- A world for the witness: the heap that the program's own initialisers leave. -/
theorem met (os : Os) (args : Array Value) : laidMetH Tryd.prog laid ((World.doorLaid Tryd.prog 400 os).forCall (fun _ _ => 0) ⟨#[], args, []⟩).memory :=
  laidMetH_of_parts3 (fuel := 8) (laidMet_of_run' 8 (by kernel_rfl) (by kernel_rfl)) (by kernel_rfl) (by kernel_rfl)

/-- No parameter wants a stand-in. -/
theorem plain {name : String} {f0 : FuncId} {fn0 : Func} (hname : Tryd.prog.funcNamed name = some f0) (hf0 : Tryd.prog.funcs[f0]? = some fn0) (hlook : false = Tryd.prog.looks []) (hall : fn0.params.toList.all (fun t => !Tryd.prog.wantsStandIn t) = true)
    (f : FuncId) (fn : Func) (hf : Tryd.pinned.checked.prog.funcNamed name = some f) (hfn : Tryd.pinned.checked.prog.funcs[f]? = some fn) :
    false = Tryd.pinned.checked.prog.looks [] ∧ ∀ (j : Nat) t, fn.params[j]? = some t → Tryd.pinned.checked.prog.wantsStandIn t = false := by
  obtain rfl : f = f0 := (Option.some.inj (hname.symm.trans hf)).symm
  obtain rfl : fn = fn0 := (Option.some.inj (hf0.symm.trans hfn)).symm
  refine ⟨hlook, fun j t ht => ?_⟩
  have hm : t ∈ fn.params.toList := by simpa using Array.mem_of_getElem? ht
  have := List.all_eq_true.1 hall t hm
  exact (show Tryd.prog.wantsStandIn t = false by simpa using this)
end Go.Proofs.YtmhmfnjjdcdkcaaDoor.Sg
