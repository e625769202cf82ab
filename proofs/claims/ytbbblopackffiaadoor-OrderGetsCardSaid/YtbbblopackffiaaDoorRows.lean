/-
  NARROWER THAN 'FOR EVERY INPUT', by the rows' own cells (each row's printed sentence says how): OrderPuts: laid · OrderGets: laid · OrderRows: laid · OrderReads: laid · OrderTurns: laid · OrderSigns: laid · OrderPads: laid · FormatPuts: laid · FormatGets: laid · FormatBack: laid · FormatOrders: laid · FormatCuts: laid · FormatSame: laid.
  DERIVED. THE GIVEN ROWS OF THIS SEAT. 13 by the template 'for every input the law returns true; each argument reads behind the call as it read before'; 0 by the template 'total and deterministic' (their statements: YtbbblopackffiaaDoorTotals.lean).
  GIVEN WITH THE SEED: the statements are not yours to turn. If you find one false, say at which input.
  Laid BY PROGRAM, IN A SANDBOX (cutbox-rows.mjs): the forced cells as the released guide's own fill.sh prints them over the translation f60c923e63872fbd… (all of the seat's roots in one cut). By AI agents, Wed Nov 11 2026. No macro, syntax, notation, axiom, sorry.
-/
import Derived.Test.YtbbblopackffiaaDoorChecked
import GoSem.Claim
import GoSem.ClaimJoined
import GoSem.ClaimMapViews
import Derived.JoinedTies
import Derived.KernelRfl
namespace Go.Proofs.YtbbblopackffiaaDoor
/- THE CELL 'sum', in the pinned program and in every row, IS THE sha256 OF THE DUMP (.gsa) THAT YtbbblopackffiaaDoorProg.lean LOADS. Nothing in Lean hashes anything: it is a label: what it is worth is what the hold of that sum in a sandbox is worth. -/
noncomputable def Tryd.pinned : Pinned := { name := "ytbbblopackffiaadoor", sum := "f60c923e63872fbdcab79edde38c73f61e1d345e4acc832f5cef82b461f4e5dd", checked := Tryd.checked }
namespace Rows
def none {H : Type} : Left H := { results := [], args := [] }

/- WHAT THE LISTED PACKAGE-LEVEL VARIABLES READ AS WHEN THE CALL BEGINS. Each datum BY PROGRAM (the guide's laid-datum.mjs) off the statement by which the dump's own 'gosem.cut.vars' lays the variable. In a bare row this is a premise. The card (YtbbblopackffiaaDoorCards.lean) ties it to the program's text. -/
def laid_glazier_order_spans {H : Type} : DataW H := .agg [.agg [.lit (.int .i64 1), .lit (.int .i64 1), .lit (.int .i64 0), .lit (.int .i64 255)], .agg [.lit (.int .i64 2), .lit (.int .i64 2), .lit (.int .i64 0), .lit (.int .i64 65535)], .agg [.lit (.int .i64 4), .lit (.int .i64 4), .lit (.int .i64 0), .lit (.int .i64 4294967295)], .agg [.lit (.int .i64 (-1)), .lit (.int .i64 1), .lit (.int .i64 (-128)), .lit (.int .i64 127)], .agg [.lit (.int .i64 (-2)), .lit (.int .i64 2), .lit (.int .i64 (-32768)), .lit (.int .i64 32767)], .agg [.lit (.int .i64 (-4)), .lit (.int .i64 4), .lit (.int .i64 (-2147483648)), .lit (.int .i64 2147483647)]]

/-- 'glazierlaw01.OrderPuts': WHATEVER THE INPUT: true; the input reads as it did. -/
def orderPutsSpec : ChangeSpec := { name := "orderPuts", fn := fun _ => fun
  | [d1, d2] => { results := [.lit (.bool true)], args := [d1, d2] }
  | _ => none }
def orderPutsRow : OpenClaim := { program := "ytbbblopackffiaadoor", sum := "f60c923e63872fbdcab79edde38c73f61e1d345e4acc832f5cef82b461f4e5dd", func := "glazier/glazierlaw01.OrderPuts", spec := "orderPuts", named := ["glazier/order.spans"], apart := false, laid := [("glazier/order.spans", laid_glazier_order_spans)] }
def OrderPutsSaid : Prop := orderPutsRow.holds Tryd.pinned (OpenSpec.ofChange orderPutsSpec)

/-- ITS FALSE NEIGHBOUR: 'it returns false'. Refute it at one input. -/
def orderPutsWrong : ChangeSpec := { name := "orderPuts", fn := fun _ => fun
  | [d1, d2] => { results := [.lit (.bool false)], args := [d1, d2] }
  | _ => none }
def OrderPutsWrongFalsely : Prop := orderPutsRow.holds Tryd.pinned (OpenSpec.ofChange orderPutsWrong)

/-- 'glazierlaw01.OrderGets': WHATEVER THE INPUT: true; the input reads as it did. -/
def orderGetsSpec : ChangeSpec := { name := "orderGets", fn := fun _ => fun
  | [d1, d2] => { results := [.lit (.bool true)], args := [d1, d2] }
  | _ => none }
def orderGetsRow : OpenClaim := { program := "ytbbblopackffiaadoor", sum := "f60c923e63872fbdcab79edde38c73f61e1d345e4acc832f5cef82b461f4e5dd", func := "glazier/glazierlaw01.OrderGets", spec := "orderGets", named := ["glazier/order.spans"], apart := false, laid := [("glazier/order.spans", laid_glazier_order_spans)] }
def OrderGetsSaid : Prop := orderGetsRow.holds Tryd.pinned (OpenSpec.ofChange orderGetsSpec)

/-- ITS FALSE NEIGHBOUR: 'it returns false'. Refute it at one input. -/
def orderGetsWrong : ChangeSpec := { name := "orderGets", fn := fun _ => fun
  | [d1, d2] => { results := [.lit (.bool false)], args := [d1, d2] }
  | _ => none }
def OrderGetsWrongFalsely : Prop := orderGetsRow.holds Tryd.pinned (OpenSpec.ofChange orderGetsWrong)

/-- 'glazierlaw01.OrderRows': WHATEVER THE INPUT: true; the input reads as it did. -/
def orderRowsSpec : ChangeSpec := { name := "orderRows", fn := fun _ => fun
  | [d1, d2] => { results := [.lit (.bool true)], args := [d1, d2] }
  | _ => none }
def orderRowsRow : OpenClaim := { program := "ytbbblopackffiaadoor", sum := "f60c923e63872fbdcab79edde38c73f61e1d345e4acc832f5cef82b461f4e5dd", func := "glazier/glazierlaw01.OrderRows", spec := "orderRows", named := ["glazier/order.spans"], apart := false, laid := [("glazier/order.spans", laid_glazier_order_spans)] }
def OrderRowsSaid : Prop := orderRowsRow.holds Tryd.pinned (OpenSpec.ofChange orderRowsSpec)

/-- ITS FALSE NEIGHBOUR: 'it returns false'. Refute it at one input. -/
def orderRowsWrong : ChangeSpec := { name := "orderRows", fn := fun _ => fun
  | [d1, d2] => { results := [.lit (.bool false)], args := [d1, d2] }
  | _ => none }
def OrderRowsWrongFalsely : Prop := orderRowsRow.holds Tryd.pinned (OpenSpec.ofChange orderRowsWrong)

/-- 'glazierlaw01.OrderReads': WHATEVER THE INPUT: true; the input reads as it did. -/
def orderReadsSpec : ChangeSpec := { name := "orderReads", fn := fun _ => fun
  | [d1, d2] => { results := [.lit (.bool true)], args := [d1, d2] }
  | _ => none }
def orderReadsRow : OpenClaim := { program := "ytbbblopackffiaadoor", sum := "f60c923e63872fbdcab79edde38c73f61e1d345e4acc832f5cef82b461f4e5dd", func := "glazier/glazierlaw01.OrderReads", spec := "orderReads", named := ["glazier/order.spans"], apart := false, laid := [("glazier/order.spans", laid_glazier_order_spans)] }
def OrderReadsSaid : Prop := orderReadsRow.holds Tryd.pinned (OpenSpec.ofChange orderReadsSpec)

/-- ITS FALSE NEIGHBOUR: 'it returns false'. Refute it at one input. -/
def orderReadsWrong : ChangeSpec := { name := "orderReads", fn := fun _ => fun
  | [d1, d2] => { results := [.lit (.bool false)], args := [d1, d2] }
  | _ => none }
def OrderReadsWrongFalsely : Prop := orderReadsRow.holds Tryd.pinned (OpenSpec.ofChange orderReadsWrong)

/-- 'glazierlaw01.OrderTurns': WHATEVER THE INPUT: true; the input reads as it did. -/
def orderTurnsSpec : ChangeSpec := { name := "orderTurns", fn := fun _ => fun
  | [d1, d2, d3] => { results := [.lit (.bool true)], args := [d1, d2, d3] }
  | _ => none }
def orderTurnsRow : OpenClaim := { program := "ytbbblopackffiaadoor", sum := "f60c923e63872fbdcab79edde38c73f61e1d345e4acc832f5cef82b461f4e5dd", func := "glazier/glazierlaw01.OrderTurns", spec := "orderTurns", named := ["glazier/order.spans"], apart := false, laid := [("glazier/order.spans", laid_glazier_order_spans)] }
def OrderTurnsSaid : Prop := orderTurnsRow.holds Tryd.pinned (OpenSpec.ofChange orderTurnsSpec)

/-- ITS FALSE NEIGHBOUR: 'it returns false'. Refute it at one input. -/
def orderTurnsWrong : ChangeSpec := { name := "orderTurns", fn := fun _ => fun
  | [d1, d2, d3] => { results := [.lit (.bool false)], args := [d1, d2, d3] }
  | _ => none }
def OrderTurnsWrongFalsely : Prop := orderTurnsRow.holds Tryd.pinned (OpenSpec.ofChange orderTurnsWrong)

/-- 'glazierlaw01.OrderSigns': WHATEVER THE INPUT: true; the input reads as it did. -/
def orderSignsSpec : ChangeSpec := { name := "orderSigns", fn := fun _ => fun
  | [d1, d2] => { results := [.lit (.bool true)], args := [d1, d2] }
  | _ => none }
def orderSignsRow : OpenClaim := { program := "ytbbblopackffiaadoor", sum := "f60c923e63872fbdcab79edde38c73f61e1d345e4acc832f5cef82b461f4e5dd", func := "glazier/glazierlaw01.OrderSigns", spec := "orderSigns", named := ["glazier/order.spans"], apart := false, laid := [("glazier/order.spans", laid_glazier_order_spans)] }
def OrderSignsSaid : Prop := orderSignsRow.holds Tryd.pinned (OpenSpec.ofChange orderSignsSpec)

/-- ITS FALSE NEIGHBOUR: 'it returns false'. Refute it at one input. -/
def orderSignsWrong : ChangeSpec := { name := "orderSigns", fn := fun _ => fun
  | [d1, d2] => { results := [.lit (.bool false)], args := [d1, d2] }
  | _ => none }
def OrderSignsWrongFalsely : Prop := orderSignsRow.holds Tryd.pinned (OpenSpec.ofChange orderSignsWrong)

/-- 'glazierlaw01.OrderPads': WHATEVER THE INPUT: true; the input reads as it did. -/
def orderPadsSpec : ChangeSpec := { name := "orderPads", fn := fun _ => fun
  | [d1, d2] => { results := [.lit (.bool true)], args := [d1, d2] }
  | _ => none }
def orderPadsRow : OpenClaim := { program := "ytbbblopackffiaadoor", sum := "f60c923e63872fbdcab79edde38c73f61e1d345e4acc832f5cef82b461f4e5dd", func := "glazier/glazierlaw01.OrderPads", spec := "orderPads", named := ["glazier/order.spans"], apart := false, laid := [("glazier/order.spans", laid_glazier_order_spans)] }
def OrderPadsSaid : Prop := orderPadsRow.holds Tryd.pinned (OpenSpec.ofChange orderPadsSpec)

/-- ITS FALSE NEIGHBOUR: 'it returns false'. Refute it at one input. -/
def orderPadsWrong : ChangeSpec := { name := "orderPads", fn := fun _ => fun
  | [d1, d2] => { results := [.lit (.bool false)], args := [d1, d2] }
  | _ => none }
def OrderPadsWrongFalsely : Prop := orderPadsRow.holds Tryd.pinned (OpenSpec.ofChange orderPadsWrong)

/-- 'glazierlaw02.FormatPuts': WHATEVER THE INPUT: true; the input reads as it did. -/
def formatPutsSpec : ChangeSpec := { name := "formatPuts", fn := fun _ => fun
  | [d1, d2, d3] => { results := [.lit (.bool true)], args := [d1, d2, d3] }
  | _ => none }
def formatPutsRow : OpenClaim := { program := "ytbbblopackffiaadoor", sum := "f60c923e63872fbdcab79edde38c73f61e1d345e4acc832f5cef82b461f4e5dd", func := "glazier/glazierlaw02.FormatPuts", spec := "formatPuts", inPlace := ["internal/abi.NoEscape", "internal/bytealg.MakeNoZero"], unfollowed := true, recurses := true, named := ["glazier/order.spans"], apart := false, laid := [("glazier/order.spans", laid_glazier_order_spans)] }
def FormatPutsSaid : Prop := formatPutsRow.holds Tryd.pinned (OpenSpec.ofChange formatPutsSpec)

/-- ITS FALSE NEIGHBOUR: 'it returns false'. Refute it at one input. -/
def formatPutsWrong : ChangeSpec := { name := "formatPuts", fn := fun _ => fun
  | [d1, d2, d3] => { results := [.lit (.bool false)], args := [d1, d2, d3] }
  | _ => none }
def FormatPutsWrongFalsely : Prop := formatPutsRow.holds Tryd.pinned (OpenSpec.ofChange formatPutsWrong)

/-- 'glazierlaw02.FormatGets': WHATEVER THE INPUT: true; the input reads as it did. -/
def formatGetsSpec : ChangeSpec := { name := "formatGets", fn := fun _ => fun
  | [d1, d2, d3] => { results := [.lit (.bool true)], args := [d1, d2, d3] }
  | _ => none }
def formatGetsRow : OpenClaim := { program := "ytbbblopackffiaadoor", sum := "f60c923e63872fbdcab79edde38c73f61e1d345e4acc832f5cef82b461f4e5dd", func := "glazier/glazierlaw02.FormatGets", spec := "formatGets", inPlace := ["internal/abi.NoEscape", "internal/bytealg.MakeNoZero"], unfollowed := true, recurses := true, named := ["glazier/order.spans"], apart := false, laid := [("glazier/order.spans", laid_glazier_order_spans)] }
def FormatGetsSaid : Prop := formatGetsRow.holds Tryd.pinned (OpenSpec.ofChange formatGetsSpec)

/-- ITS FALSE NEIGHBOUR: 'it returns false'. Refute it at one input. -/
def formatGetsWrong : ChangeSpec := { name := "formatGets", fn := fun _ => fun
  | [d1, d2, d3] => { results := [.lit (.bool false)], args := [d1, d2, d3] }
  | _ => none }
def FormatGetsWrongFalsely : Prop := formatGetsRow.holds Tryd.pinned (OpenSpec.ofChange formatGetsWrong)

/-- 'glazierlaw02.FormatBack': WHATEVER THE INPUT: true; the input reads as it did. -/
def formatBackSpec : ChangeSpec := { name := "formatBack", fn := fun _ => fun
  | [d1, d2, d3, d4] => { results := [.lit (.bool true)], args := [d1, d2, d3, d4] }
  | _ => none }
def formatBackRow : OpenClaim := { program := "ytbbblopackffiaadoor", sum := "f60c923e63872fbdcab79edde38c73f61e1d345e4acc832f5cef82b461f4e5dd", func := "glazier/glazierlaw02.FormatBack", spec := "formatBack", inPlace := ["internal/abi.NoEscape", "internal/bytealg.MakeNoZero"], unfollowed := true, recurses := true, named := ["glazier/order.spans"], apart := false, laid := [("glazier/order.spans", laid_glazier_order_spans)] }
def FormatBackSaid : Prop := formatBackRow.holds Tryd.pinned (OpenSpec.ofChange formatBackSpec)

/-- ITS FALSE NEIGHBOUR: 'it returns false'. Refute it at one input. -/
def formatBackWrong : ChangeSpec := { name := "formatBack", fn := fun _ => fun
  | [d1, d2, d3, d4] => { results := [.lit (.bool false)], args := [d1, d2, d3, d4] }
  | _ => none }
def FormatBackWrongFalsely : Prop := formatBackRow.holds Tryd.pinned (OpenSpec.ofChange formatBackWrong)

/-- 'glazierlaw02.FormatOrders': WHATEVER THE INPUT: true; the input reads as it did. -/
def formatOrdersSpec : ChangeSpec := { name := "formatOrders", fn := fun _ => fun
  | [d1, d2] => { results := [.lit (.bool true)], args := [d1, d2] }
  | _ => none }
def formatOrdersRow : OpenClaim := { program := "ytbbblopackffiaadoor", sum := "f60c923e63872fbdcab79edde38c73f61e1d345e4acc832f5cef82b461f4e5dd", func := "glazier/glazierlaw02.FormatOrders", spec := "formatOrders", inPlace := ["internal/abi.NoEscape", "internal/bytealg.MakeNoZero"], unfollowed := true, recurses := true, named := ["glazier/order.spans"], apart := false, laid := [("glazier/order.spans", laid_glazier_order_spans)] }
def FormatOrdersSaid : Prop := formatOrdersRow.holds Tryd.pinned (OpenSpec.ofChange formatOrdersSpec)

/-- ITS FALSE NEIGHBOUR: 'it returns false'. Refute it at one input. -/
def formatOrdersWrong : ChangeSpec := { name := "formatOrders", fn := fun _ => fun
  | [d1, d2] => { results := [.lit (.bool false)], args := [d1, d2] }
  | _ => none }
def FormatOrdersWrongFalsely : Prop := formatOrdersRow.holds Tryd.pinned (OpenSpec.ofChange formatOrdersWrong)

/-- 'glazierlaw02.FormatCuts': WHATEVER THE INPUT: true; the input reads as it did. -/
def formatCutsSpec : ChangeSpec := { name := "formatCuts", fn := fun _ => fun
  | [d1, d2, d3, d4, d5] => { results := [.lit (.bool true)], args := [d1, d2, d3, d4, d5] }
  | _ => none }
def formatCutsRow : OpenClaim := { program := "ytbbblopackffiaadoor", sum := "f60c923e63872fbdcab79edde38c73f61e1d345e4acc832f5cef82b461f4e5dd", func := "glazier/glazierlaw02.FormatCuts", spec := "formatCuts", inPlace := ["internal/abi.NoEscape", "internal/bytealg.MakeNoZero"], unfollowed := true, recurses := true, named := ["glazier/order.spans"], apart := false, laid := [("glazier/order.spans", laid_glazier_order_spans)] }
def FormatCutsSaid : Prop := formatCutsRow.holds Tryd.pinned (OpenSpec.ofChange formatCutsSpec)

/-- ITS FALSE NEIGHBOUR: 'it returns false'. Refute it at one input. -/
def formatCutsWrong : ChangeSpec := { name := "formatCuts", fn := fun _ => fun
  | [d1, d2, d3, d4, d5] => { results := [.lit (.bool false)], args := [d1, d2, d3, d4, d5] }
  | _ => none }
def FormatCutsWrongFalsely : Prop := formatCutsRow.holds Tryd.pinned (OpenSpec.ofChange formatCutsWrong)

/-- 'glazierlaw02.FormatSame': WHATEVER THE INPUT: true; the input reads as it did. -/
def formatSameSpec : ChangeSpec := { name := "formatSame", fn := fun _ => fun
  | [d1, d2] => { results := [.lit (.bool true)], args := [d1, d2] }
  | _ => none }
def formatSameRow : OpenClaim := { program := "ytbbblopackffiaadoor", sum := "f60c923e63872fbdcab79edde38c73f61e1d345e4acc832f5cef82b461f4e5dd", func := "glazier/glazierlaw02.FormatSame", spec := "formatSame", inPlace := ["internal/abi.NoEscape", "internal/bytealg.MakeNoZero"], unfollowed := true, recurses := true, named := ["glazier/order.spans"], apart := false, laid := [("glazier/order.spans", laid_glazier_order_spans)] }
def FormatSameSaid : Prop := formatSameRow.holds Tryd.pinned (OpenSpec.ofChange formatSameSpec)

/-- ITS FALSE NEIGHBOUR: 'it returns false'. Refute it at one input. -/
def formatSameWrong : ChangeSpec := { name := "formatSame", fn := fun _ => fun
  | [d1, d2] => { results := [.lit (.bool false)], args := [d1, d2] }
  | _ => none }
def FormatSameWrongFalsely : Prop := formatSameRow.holds Tryd.pinned (OpenSpec.ofChange formatSameWrong)

/- THE SECOND FORM. 'bulk': how many values and letters a reading holds, each counted each time it is reached (what is shared counts as often as it is met; a slice's spare places count too). A statement '..UptoSaid' is the law's where the arguments, and the package variables that the reading takes, are together of bulk at most 1048576: NARROWER than '..Said'. Prove '..Said' where nothing that the law and all that it calls make is longer than what came in: it says more and counts as full. Else prove '..UptoSaid'. A law counts once. -/
mutual
def uptoBulk {H : Type} : DataW H → Nat
  | .lit (.string bytes) => bytes.length + 1
  | .lit _ => 1
  | .nil => 1
  | .ptr d => uptoBulk d + 1
  | .slice elems spare => uptoBulkAll elems + uptoBulkAll spare + 1
  | .agg parts => uptoBulkAll parts + 1
  | .iface _ d => uptoBulk d + 1
  | .map entries => uptoBulkEntries entries + 1
  | .held _ => 1
def uptoBulkAll {H : Type} : List (DataW H) → Nat
  | [] => 0
  | d :: r => uptoBulk d + uptoBulkAll r
def uptoBulkEntries {H : Type} : List (Lit × DataW H) → Nat
  | [] => 0
  | x :: r => uptoBulkEntry x + uptoBulkEntries r
def uptoBulkEntry {H : Type} : Lit × DataW H → Nat
  | (.string bytes, d) => bytes.length + uptoBulk d + 1
  | (_, d) => uptoBulk d + 1
 end
def uptoSmall : (H : Type) → List (DataW H) → Bool := fun _ ds => decide (uptoBulkAll ds ≤ 1048576)
def OpenSpec.upto (s : _root_.Go.ChangeSpec) : _root_.Go.OpenSpec := { _root_.Go.OpenSpec.ofChange s with cond := some uptoSmall }

/-- 'glazierlaw01.OrderPuts', WHERE WHAT IT READS IS OF BULK AT MOST 1048576: true; the input reads as it did. -/
def orderPutsUptoRow : OpenClaim := { program := "ytbbblopackffiaadoor", sum := "f60c923e63872fbdcab79edde38c73f61e1d345e4acc832f5cef82b461f4e5dd", func := "glazier/glazierlaw01.OrderPuts", spec := "orderPuts", named := ["glazier/order.spans"], apart := false, laid := [("glazier/order.spans", laid_glazier_order_spans)], narrowed := true }
def OrderPutsUptoSaid : Prop := orderPutsUptoRow.holds Tryd.pinned (OpenSpec.upto orderPutsSpec)

/-- 'glazierlaw01.OrderGets', WHERE WHAT IT READS IS OF BULK AT MOST 1048576: true; the input reads as it did. -/
def orderGetsUptoRow : OpenClaim := { program := "ytbbblopackffiaadoor", sum := "f60c923e63872fbdcab79edde38c73f61e1d345e4acc832f5cef82b461f4e5dd", func := "glazier/glazierlaw01.OrderGets", spec := "orderGets", named := ["glazier/order.spans"], apart := false, laid := [("glazier/order.spans", laid_glazier_order_spans)], narrowed := true }
def OrderGetsUptoSaid : Prop := orderGetsUptoRow.holds Tryd.pinned (OpenSpec.upto orderGetsSpec)

/-- 'glazierlaw01.OrderRows', WHERE WHAT IT READS IS OF BULK AT MOST 1048576: true; the input reads as it did. -/
def orderRowsUptoRow : OpenClaim := { program := "ytbbblopackffiaadoor", sum := "f60c923e63872fbdcab79edde38c73f61e1d345e4acc832f5cef82b461f4e5dd", func := "glazier/glazierlaw01.OrderRows", spec := "orderRows", named := ["glazier/order.spans"], apart := false, laid := [("glazier/order.spans", laid_glazier_order_spans)], narrowed := true }
def OrderRowsUptoSaid : Prop := orderRowsUptoRow.holds Tryd.pinned (OpenSpec.upto orderRowsSpec)

/-- 'glazierlaw01.OrderReads', WHERE WHAT IT READS IS OF BULK AT MOST 1048576: true; the input reads as it did. -/
def orderReadsUptoRow : OpenClaim := { program := "ytbbblopackffiaadoor", sum := "f60c923e63872fbdcab79edde38c73f61e1d345e4acc832f5cef82b461f4e5dd", func := "glazier/glazierlaw01.OrderReads", spec := "orderReads", named := ["glazier/order.spans"], apart := false, laid := [("glazier/order.spans", laid_glazier_order_spans)], narrowed := true }
def OrderReadsUptoSaid : Prop := orderReadsUptoRow.holds Tryd.pinned (OpenSpec.upto orderReadsSpec)

/-- 'glazierlaw01.OrderTurns', WHERE WHAT IT READS IS OF BULK AT MOST 1048576: true; the input reads as it did. -/
def orderTurnsUptoRow : OpenClaim := { program := "ytbbblopackffiaadoor", sum := "f60c923e63872fbdcab79edde38c73f61e1d345e4acc832f5cef82b461f4e5dd", func := "glazier/glazierlaw01.OrderTurns", spec := "orderTurns", named := ["glazier/order.spans"], apart := false, laid := [("glazier/order.spans", laid_glazier_order_spans)], narrowed := true }
def OrderTurnsUptoSaid : Prop := orderTurnsUptoRow.holds Tryd.pinned (OpenSpec.upto orderTurnsSpec)

/-- 'glazierlaw01.OrderSigns', WHERE WHAT IT READS IS OF BULK AT MOST 1048576: true; the input reads as it did. -/
def orderSignsUptoRow : OpenClaim := { program := "ytbbblopackffiaadoor", sum := "f60c923e63872fbdcab79edde38c73f61e1d345e4acc832f5cef82b461f4e5dd", func := "glazier/glazierlaw01.OrderSigns", spec := "orderSigns", named := ["glazier/order.spans"], apart := false, laid := [("glazier/order.spans", laid_glazier_order_spans)], narrowed := true }
def OrderSignsUptoSaid : Prop := orderSignsUptoRow.holds Tryd.pinned (OpenSpec.upto orderSignsSpec)

/-- 'glazierlaw01.OrderPads', WHERE WHAT IT READS IS OF BULK AT MOST 1048576: true; the input reads as it did. -/
def orderPadsUptoRow : OpenClaim := { program := "ytbbblopackffiaadoor", sum := "f60c923e63872fbdcab79edde38c73f61e1d345e4acc832f5cef82b461f4e5dd", func := "glazier/glazierlaw01.OrderPads", spec := "orderPads", named := ["glazier/order.spans"], apart := false, laid := [("glazier/order.spans", laid_glazier_order_spans)], narrowed := true }
def OrderPadsUptoSaid : Prop := orderPadsUptoRow.holds Tryd.pinned (OpenSpec.upto orderPadsSpec)

/-- 'glazierlaw02.FormatPuts', WHERE WHAT IT READS IS OF BULK AT MOST 1048576: true; the input reads as it did. -/
def formatPutsUptoRow : OpenClaim := { program := "ytbbblopackffiaadoor", sum := "f60c923e63872fbdcab79edde38c73f61e1d345e4acc832f5cef82b461f4e5dd", func := "glazier/glazierlaw02.FormatPuts", spec := "formatPuts", inPlace := ["internal/abi.NoEscape", "internal/bytealg.MakeNoZero"], unfollowed := true, recurses := true, named := ["glazier/order.spans"], apart := false, laid := [("glazier/order.spans", laid_glazier_order_spans)], narrowed := true }
def FormatPutsUptoSaid : Prop := formatPutsUptoRow.holds Tryd.pinned (OpenSpec.upto formatPutsSpec)

/-- 'glazierlaw02.FormatGets', WHERE WHAT IT READS IS OF BULK AT MOST 1048576: true; the input reads as it did. -/
def formatGetsUptoRow : OpenClaim := { program := "ytbbblopackffiaadoor", sum := "f60c923e63872fbdcab79edde38c73f61e1d345e4acc832f5cef82b461f4e5dd", func := "glazier/glazierlaw02.FormatGets", spec := "formatGets", inPlace := ["internal/abi.NoEscape", "internal/bytealg.MakeNoZero"], unfollowed := true, recurses := true, named := ["glazier/order.spans"], apart := false, laid := [("glazier/order.spans", laid_glazier_order_spans)], narrowed := true }
def FormatGetsUptoSaid : Prop := formatGetsUptoRow.holds Tryd.pinned (OpenSpec.upto formatGetsSpec)

/-- 'glazierlaw02.FormatBack', WHERE WHAT IT READS IS OF BULK AT MOST 1048576: true; the input reads as it did. -/
def formatBackUptoRow : OpenClaim := { program := "ytbbblopackffiaadoor", sum := "f60c923e63872fbdcab79edde38c73f61e1d345e4acc832f5cef82b461f4e5dd", func := "glazier/glazierlaw02.FormatBack", spec := "formatBack", inPlace := ["internal/abi.NoEscape", "internal/bytealg.MakeNoZero"], unfollowed := true, recurses := true, named := ["glazier/order.spans"], apart := false, laid := [("glazier/order.spans", laid_glazier_order_spans)], narrowed := true }
def FormatBackUptoSaid : Prop := formatBackUptoRow.holds Tryd.pinned (OpenSpec.upto formatBackSpec)

/-- 'glazierlaw02.FormatOrders', WHERE WHAT IT READS IS OF BULK AT MOST 1048576: true; the input reads as it did. -/
def formatOrdersUptoRow : OpenClaim := { program := "ytbbblopackffiaadoor", sum := "f60c923e63872fbdcab79edde38c73f61e1d345e4acc832f5cef82b461f4e5dd", func := "glazier/glazierlaw02.FormatOrders", spec := "formatOrders", inPlace := ["internal/abi.NoEscape", "internal/bytealg.MakeNoZero"], unfollowed := true, recurses := true, named := ["glazier/order.spans"], apart := false, laid := [("glazier/order.spans", laid_glazier_order_spans)], narrowed := true }
def FormatOrdersUptoSaid : Prop := formatOrdersUptoRow.holds Tryd.pinned (OpenSpec.upto formatOrdersSpec)

/-- 'glazierlaw02.FormatCuts', WHERE WHAT IT READS IS OF BULK AT MOST 1048576: true; the input reads as it did. -/
def formatCutsUptoRow : OpenClaim := { program := "ytbbblopackffiaadoor", sum := "f60c923e63872fbdcab79edde38c73f61e1d345e4acc832f5cef82b461f4e5dd", func := "glazier/glazierlaw02.FormatCuts", spec := "formatCuts", inPlace := ["internal/abi.NoEscape", "internal/bytealg.MakeNoZero"], unfollowed := true, recurses := true, named := ["glazier/order.spans"], apart := false, laid := [("glazier/order.spans", laid_glazier_order_spans)], narrowed := true }
def FormatCutsUptoSaid : Prop := formatCutsUptoRow.holds Tryd.pinned (OpenSpec.upto formatCutsSpec)

/-- 'glazierlaw02.FormatSame', WHERE WHAT IT READS IS OF BULK AT MOST 1048576: true; the input reads as it did. -/
def formatSameUptoRow : OpenClaim := { program := "ytbbblopackffiaadoor", sum := "f60c923e63872fbdcab79edde38c73f61e1d345e4acc832f5cef82b461f4e5dd", func := "glazier/glazierlaw02.FormatSame", spec := "formatSame", inPlace := ["internal/abi.NoEscape", "internal/bytealg.MakeNoZero"], unfollowed := true, recurses := true, named := ["glazier/order.spans"], apart := false, laid := [("glazier/order.spans", laid_glazier_order_spans)], narrowed := true }
def FormatSameUptoSaid : Prop := formatSameUptoRow.holds Tryd.pinned (OpenSpec.upto formatSameSpec)

end Rows
end Go.Proofs.YtbbblopackffiaaDoor
