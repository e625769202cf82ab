/-
  No cell of these rows narrows 'for every input' (looked for: loops, veiled, ifaces, maps, wideKeys, modest, calm, conditions, laid).
  DERIVED. THE GIVEN ROWS OF THIS SEAT. 4 by the template 'for every input the law returns true; each argument reads behind the call as it read before'; 0 by the template 'total and deterministic' (their statements: YtfdmiaoljepcmaaTotals.lean).
  GIVEN WITH THE SEED: the statements are not yours to turn. If you find one false, say at which input.
  Laid BY PROGRAM, IN A SANDBOX (cutbox-rows.mjs): the forced cells as the released guide's own fill.sh prints them over the translation ce6bb9798046ce41… (all of the seat's roots in one cut). By AI agents, Wed Nov 11 2026. No macro, syntax, notation, axiom, sorry.
-/
import Derived.Test.YtfdmiaoljepcmaaChecked
import GoSem.Claim
import GoSem.ClaimJoined
import GoSem.ClaimMapViews
import Derived.JoinedTies
import Derived.KernelRfl
namespace Go.Proofs.Ytfdmiaoljepcmaa
/- THE CELL 'sum', in the pinned program and in every row, IS THE sha256 OF THE DUMP (.gsa) THAT YtfdmiaoljepcmaaProg.lean LOADS. Nothing in Lean hashes anything: it is a label: what it is worth is what the hold of that sum in a sandbox is worth. -/
noncomputable def Try.pinned : Pinned := { name := "ytfdmiaoljepcmaa", sum := "ce6bb9798046ce41250944b72ffd18e388820de4bb01c004f9c95d2588a84e69", checked := Try.checked }
namespace Rows
def none {H : Type} : Left H := { results := [], args := [] }

/-- 'glazierlaw25.ImageJoins': WHATEVER THE INPUT: true; the input reads as it did. -/
def imageJoinsSpec : ChangeSpec := { name := "imageJoins", fn := fun _ => fun
  | [d1, d2] => { results := [.lit (.bool true)], args := [d1, d2] }
  | _ => none }
def imageJoinsRow : OpenClaim := { program := "ytfdmiaoljepcmaa", sum := "ce6bb9798046ce41250944b72ffd18e388820de4bb01c004f9c95d2588a84e69", func := "glazier/glazierlaw25.ImageJoins", spec := "imageJoins", inPlace := ["internal/abi.NoEscape", "internal/bytealg.MakeNoZero"], apart := false }
def ImageJoinsSaid : Prop := imageJoinsRow.holds Try.pinned (OpenSpec.ofChange imageJoinsSpec)

/-- ITS FALSE NEIGHBOUR: 'it returns false'. Refute it at one input. -/
def imageJoinsWrong : ChangeSpec := { name := "imageJoins", fn := fun _ => fun
  | [d1, d2] => { results := [.lit (.bool false)], args := [d1, d2] }
  | _ => none }
def ImageJoinsWrongFalsely : Prop := imageJoinsRow.holds Try.pinned (OpenSpec.ofChange imageJoinsWrong)

/-- 'glazierlaw25.ImageShorts': WHATEVER THE INPUT: true; the input reads as it did. -/
def imageShortsSpec : ChangeSpec := { name := "imageShorts", fn := fun _ => fun
  | [d1, d2] => { results := [.lit (.bool true)], args := [d1, d2] }
  | _ => none }
def imageShortsRow : OpenClaim := { program := "ytfdmiaoljepcmaa", sum := "ce6bb9798046ce41250944b72ffd18e388820de4bb01c004f9c95d2588a84e69", func := "glazier/glazierlaw25.ImageShorts", spec := "imageShorts", inPlace := ["internal/abi.NoEscape", "internal/bytealg.MakeNoZero"], apart := false }
def ImageShortsSaid : Prop := imageShortsRow.holds Try.pinned (OpenSpec.ofChange imageShortsSpec)

/-- ITS FALSE NEIGHBOUR: 'it returns false'. Refute it at one input. -/
def imageShortsWrong : ChangeSpec := { name := "imageShorts", fn := fun _ => fun
  | [d1, d2] => { results := [.lit (.bool false)], args := [d1, d2] }
  | _ => none }
def ImageShortsWrongFalsely : Prop := imageShortsRow.holds Try.pinned (OpenSpec.ofChange imageShortsWrong)

/-- 'glazierlaw25.ImageBack': WHATEVER THE INPUT: true; the input reads as it did. -/
def imageBackSpec : ChangeSpec := { name := "imageBack", fn := fun _ => fun
  | [d1, d2, d3] => { results := [.lit (.bool true)], args := [d1, d2, d3] }
  | _ => none }
def imageBackRow : OpenClaim := { program := "ytfdmiaoljepcmaa", sum := "ce6bb9798046ce41250944b72ffd18e388820de4bb01c004f9c95d2588a84e69", func := "glazier/glazierlaw25.ImageBack", spec := "imageBack", inPlace := ["internal/abi.NoEscape", "internal/bytealg.MakeNoZero"], apart := false }
def ImageBackSaid : Prop := imageBackRow.holds Try.pinned (OpenSpec.ofChange imageBackSpec)

/-- ITS FALSE NEIGHBOUR: 'it returns false'. Refute it at one input. -/
def imageBackWrong : ChangeSpec := { name := "imageBack", fn := fun _ => fun
  | [d1, d2, d3] => { results := [.lit (.bool false)], args := [d1, d2, d3] }
  | _ => none }
def ImageBackWrongFalsely : Prop := imageBackRow.holds Try.pinned (OpenSpec.ofChange imageBackWrong)

/-- 'glazierlaw25.ImageBounds': WHATEVER THE INPUT: true; the input reads as it did. -/
def imageBoundsSpec : ChangeSpec := { name := "imageBounds", fn := fun _ => fun
  | [d1, d2] => { results := [.lit (.bool true)], args := [d1, d2] }
  | _ => none }
def imageBoundsRow : OpenClaim := { program := "ytfdmiaoljepcmaa", sum := "ce6bb9798046ce41250944b72ffd18e388820de4bb01c004f9c95d2588a84e69", func := "glazier/glazierlaw25.ImageBounds", spec := "imageBounds", inPlace := ["internal/abi.NoEscape", "internal/bytealg.MakeNoZero"], apart := false }
def ImageBoundsSaid : Prop := imageBoundsRow.holds Try.pinned (OpenSpec.ofChange imageBoundsSpec)

/-- ITS FALSE NEIGHBOUR: 'it returns false'. Refute it at one input. -/
def imageBoundsWrong : ChangeSpec := { name := "imageBounds", fn := fun _ => fun
  | [d1, d2] => { results := [.lit (.bool false)], args := [d1, d2] }
  | _ => none }
def ImageBoundsWrongFalsely : Prop := imageBoundsRow.holds Try.pinned (OpenSpec.ofChange imageBoundsWrong)

/- THE SECOND FORM. 'bulk': how many values and letters a reading holds, each counted each time it is reached (what is shared counts as often as it is met; a slice's spare places count too). A statement '..UptoSaid' is the law's where the arguments, and the package variables that the reading takes, are together of bulk at most 1048576: NARROWER than '..Said'. Prove '..Said' where nothing that the law and all that it calls make is longer than what came in: it says more and counts as full. Else prove '..UptoSaid'. A law counts once. -/
mutual
def uptoBulk {H : Type} : DataW H → Nat
  | .lit (.string bytes) => bytes.length + 1
  | .lit _ => 1
  | .nil => 1
  | .ptr d => uptoBulk d + 1
  | .slice elems spare => uptoBulkAll elems + uptoBulkAll spare + 1
  | .agg parts => uptoBulkAll parts + 1
  | .iface _ d => uptoBulk d + 1
  | .map entries => uptoBulkEntries entries + 1
  | .held _ => 1
def uptoBulkAll {H : Type} : List (DataW H) → Nat
  | [] => 0
  | d :: r => uptoBulk d + uptoBulkAll r
def uptoBulkEntries {H : Type} : List (Lit × DataW H) → Nat
  | [] => 0
  | x :: r => uptoBulkEntry x + uptoBulkEntries r
def uptoBulkEntry {H : Type} : Lit × DataW H → Nat
  | (.string bytes, d) => bytes.length + uptoBulk d + 1
  | (_, d) => uptoBulk d + 1
 end
def uptoSmall : (H : Type) → List (DataW H) → Bool := fun _ ds => decide (uptoBulkAll ds ≤ 1048576)
def OpenSpec.upto (s : _root_.Go.ChangeSpec) : _root_.Go.OpenSpec := { _root_.Go.OpenSpec.ofChange s with cond := some uptoSmall }

/-- 'glazierlaw25.ImageJoins', WHERE WHAT IT READS IS OF BULK AT MOST 1048576: true; the input reads as it did. -/
def imageJoinsUptoRow : OpenClaim := { program := "ytfdmiaoljepcmaa", sum := "ce6bb9798046ce41250944b72ffd18e388820de4bb01c004f9c95d2588a84e69", func := "glazier/glazierlaw25.ImageJoins", spec := "imageJoins", inPlace := ["internal/abi.NoEscape", "internal/bytealg.MakeNoZero"], apart := false, narrowed := true }
def ImageJoinsUptoSaid : Prop := imageJoinsUptoRow.holds Try.pinned (OpenSpec.upto imageJoinsSpec)

/-- 'glazierlaw25.ImageShorts', WHERE WHAT IT READS IS OF BULK AT MOST 1048576: true; the input reads as it did. -/
def imageShortsUptoRow : OpenClaim := { program := "ytfdmiaoljepcmaa", sum := "ce6bb9798046ce41250944b72ffd18e388820de4bb01c004f9c95d2588a84e69", func := "glazier/glazierlaw25.ImageShorts", spec := "imageShorts", inPlace := ["internal/abi.NoEscape", "internal/bytealg.MakeNoZero"], apart := false, narrowed := true }
def ImageShortsUptoSaid : Prop := imageShortsUptoRow.holds Try.pinned (OpenSpec.upto imageShortsSpec)

/-- 'glazierlaw25.ImageBack', WHERE WHAT IT READS IS OF BULK AT MOST 1048576: true; the input reads as it did. -/
def imageBackUptoRow : OpenClaim := { program := "ytfdmiaoljepcmaa", sum := "ce6bb9798046ce41250944b72ffd18e388820de4bb01c004f9c95d2588a84e69", func := "glazier/glazierlaw25.ImageBack", spec := "imageBack", inPlace := ["internal/abi.NoEscape", "internal/bytealg.MakeNoZero"], apart := false, narrowed := true }
def ImageBackUptoSaid : Prop := imageBackUptoRow.holds Try.pinned (OpenSpec.upto imageBackSpec)

/-- 'glazierlaw25.ImageBounds', WHERE WHAT IT READS IS OF BULK AT MOST 1048576: true; the input reads as it did. -/
def imageBoundsUptoRow : OpenClaim := { program := "ytfdmiaoljepcmaa", sum := "ce6bb9798046ce41250944b72ffd18e388820de4bb01c004f9c95d2588a84e69", func := "glazier/glazierlaw25.ImageBounds", spec := "imageBounds", inPlace := ["internal/abi.NoEscape", "internal/bytealg.MakeNoZero"], apart := false, narrowed := true }
def ImageBoundsUptoSaid : Prop := imageBoundsUptoRow.holds Try.pinned (OpenSpec.upto imageBoundsSpec)

end Rows
end Go.Proofs.Ytfdmiaoljepcmaa
