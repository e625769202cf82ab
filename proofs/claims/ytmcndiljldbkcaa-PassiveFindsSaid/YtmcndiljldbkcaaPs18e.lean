/- Layer 38: Check of any grab, the program's and the document's. -/
import Derived.Test.YtmcndiljldbkcaaPs18a
import Derived.Test.YtmcndiljldbkcaaPs18b
import Derived.Test.YtmcndiljldbkcaaPs18c
import Derived.Test.YtmcndiljldbkcaaPs18d
namespace Go.Proofs.Ytmcndiljldbkcaa
open Go Go.RowKit
set_option linter.unusedSimpArgs false
set_option linter.unusedVariables false
theorem check_any (g : G) (w : World) : Calls Try.prog 30 #[gV g] w fun e w' => e = .returned (i6 (chkN g)) ∧ Below w.heap.size w w' := by
  obtain ⟨a0, a1, a2, a3, a4, a5, a6, a7, a8⟩ := g
  cases a2
  · exact chk_false a0 a1 a3 a4 a5 a6 a7 a8 w
  · exact chk_true a0 a1 a3 a4 a5 a6 a7 a8 w
theorem rcheck_any (g : G) (w : World) : Calls Try.prog 19 #[gV g] w fun e w' => e = .returned (i6 (chkN g)) ∧ Below w.heap.size w w' := by
  obtain ⟨a0, a1, a2, a3, a4, a5, a6, a7, a8⟩ := g
  cases a2
  · exact rchk_false a0 a1 a3 a4 a5 a6 a7 a8 w
  · exact rchk_true a0 a1 a3 a4 a5 a6 a7 a8 w
end Go.Proofs.Ytmcndiljldbkcaa
