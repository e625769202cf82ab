/- Layer 38: the document's Check and Activates. -/
import Derived.Test.YtmcndiljldbkcaaPs12a
import Derived.Test.YtmcndiljldbkcaaPs12b
import Derived.Test.YtmcndiljldbkcaaPs12c
import Derived.Test.YtmcndiljldbkcaaPs12d
namespace Go.Proofs.Ytmcndiljldbkcaa
open Go Go.RowKit
set_option linter.unusedSimpArgs false
set_option linter.unusedVariables false
theorem rcheck_bad (g : G) (w : World) (h : ¬ RightG g) : Calls Try.prog 19 #[gV g] w fun e w' => ∃ n, e = .returned (i6 n) ∧ n ≠ 0 ∧ Below w.heap.size w w' := by
  obtain ⟨a0, a1, a2, a3, a4, a5, a6, a7, a8⟩ := g
  cases a2
  · exact rcheck_bad_false a0 a1 a3 a4 a5 a6 a7 a8 w h
  · exact rcheck_bad_true a0 a1 a3 a4 a5 a6 a7 a8 w h
end Go.Proofs.Ytmcndiljldbkcaa
