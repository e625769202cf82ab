/-
  DERIVED. GIVEN WITH THE SEED: THE CARDS: each row of YtbbblopackffiaaDoorRows.lean that lists a variable, with what it lists TIED to the program's text (the seventh form; the later family's looks); each row that meets fmt, with fmt's text TOLD by the authors' own Lean function (tested against real Go, not proved from fmt's source: count such statements apart). THE CARD IS WHAT COUNTS. Prove the row's statement (the work); the ties are given (YtbbblopackffiaaDoorTie.lean); close each card by the builder's one call (the guide's Derived/Test/ToyasCard.lean, 'card_holds'). Laid BY PROGRAM, IN A SANDBOX (cutbox-door.mjs). By AI agents, Wed Nov 11 2026. No macro, syntax, notation, axiom, sorry.
-/
import Derived.Test.YtbbblopackffiaaDoorRows
import GoSem.ClaimSeven
namespace Go.Proofs.YtbbblopackffiaaDoor
namespace Rows

/-- THE TIED CARD OF 'glazierlaw01.OrderPuts'. -/
def orderPutsCard : Claim7 := { stood := { row := orderPutsRow, standIns := [], harness := (true, "84469892f38ab5a6f2ccff8b97dcec23df2aa322bc002da7a3e0945c6b1685e0"), looks := false }, kinds := [], alts := [], laidByText := true, laidKinds := [.data], laidTests := true, laidLooks := .later }
def OrderPutsCardSaid : Prop := Claim7.holds Tryd.pinned (.plain (OpenSpec.ofChange orderPutsSpec)) orderPutsCard

/-- THE TIED CARD OF 'glazierlaw01.OrderGets'. -/
def orderGetsCard : Claim7 := { stood := { row := orderGetsRow, standIns := [], harness := (true, "84469892f38ab5a6f2ccff8b97dcec23df2aa322bc002da7a3e0945c6b1685e0"), looks := false }, kinds := [], alts := [], laidByText := true, laidKinds := [.data], laidTests := true, laidLooks := .later }
def OrderGetsCardSaid : Prop := Claim7.holds Tryd.pinned (.plain (OpenSpec.ofChange orderGetsSpec)) orderGetsCard

/-- THE TIED CARD OF 'glazierlaw01.OrderRows'. -/
def orderRowsCard : Claim7 := { stood := { row := orderRowsRow, standIns := [], harness := (true, "84469892f38ab5a6f2ccff8b97dcec23df2aa322bc002da7a3e0945c6b1685e0"), looks := false }, kinds := [], alts := [], laidByText := true, laidKinds := [.data], laidTests := true, laidLooks := .later }
def OrderRowsCardSaid : Prop := Claim7.holds Tryd.pinned (.plain (OpenSpec.ofChange orderRowsSpec)) orderRowsCard

/-- THE TIED CARD OF 'glazierlaw01.OrderReads'. -/
def orderReadsCard : Claim7 := { stood := { row := orderReadsRow, standIns := [], harness := (true, "84469892f38ab5a6f2ccff8b97dcec23df2aa322bc002da7a3e0945c6b1685e0"), looks := false }, kinds := [], alts := [], laidByText := true, laidKinds := [.data], laidTests := true, laidLooks := .later }
def OrderReadsCardSaid : Prop := Claim7.holds Tryd.pinned (.plain (OpenSpec.ofChange orderReadsSpec)) orderReadsCard

/-- THE TIED CARD OF 'glazierlaw01.OrderTurns'. -/
def orderTurnsCard : Claim7 := { stood := { row := orderTurnsRow, standIns := [], harness := (true, "84469892f38ab5a6f2ccff8b97dcec23df2aa322bc002da7a3e0945c6b1685e0"), looks := false }, kinds := [], alts := [], laidByText := true, laidKinds := [.data], laidTests := true, laidLooks := .later }
def OrderTurnsCardSaid : Prop := Claim7.holds Tryd.pinned (.plain (OpenSpec.ofChange orderTurnsSpec)) orderTurnsCard

/-- THE TIED CARD OF 'glazierlaw01.OrderSigns'. -/
def orderSignsCard : Claim7 := { stood := { row := orderSignsRow, standIns := [], harness := (true, "84469892f38ab5a6f2ccff8b97dcec23df2aa322bc002da7a3e0945c6b1685e0"), looks := false }, kinds := [], alts := [], laidByText := true, laidKinds := [.data], laidTests := true, laidLooks := .later }
def OrderSignsCardSaid : Prop := Claim7.holds Tryd.pinned (.plain (OpenSpec.ofChange orderSignsSpec)) orderSignsCard

/-- THE TIED CARD OF 'glazierlaw01.OrderPads'. -/
def orderPadsCard : Claim7 := { stood := { row := orderPadsRow, standIns := [], harness := (true, "84469892f38ab5a6f2ccff8b97dcec23df2aa322bc002da7a3e0945c6b1685e0"), looks := false }, kinds := [], alts := [], laidByText := true, laidKinds := [.data], laidTests := true, laidLooks := .later }
def OrderPadsCardSaid : Prop := Claim7.holds Tryd.pinned (.plain (OpenSpec.ofChange orderPadsSpec)) orderPadsCard

/-- THE TIED CARD OF 'glazierlaw02.FormatPuts'. -/
def formatPutsCard : Claim7 := { stood := { row := formatPutsRow, standIns := [], harness := (true, "84469892f38ab5a6f2ccff8b97dcec23df2aa322bc002da7a3e0945c6b1685e0"), looks := false }, kinds := [], alts := [], laidByText := true, laidKinds := [.data], laidTests := true, laidLooks := .later }
def FormatPutsCardSaid : Prop := Claim7.holds Tryd.pinned (.plain (OpenSpec.ofChange formatPutsSpec)) formatPutsCard

/-- THE TIED CARD OF 'glazierlaw02.FormatGets'. -/
def formatGetsCard : Claim7 := { stood := { row := formatGetsRow, standIns := [], harness := (true, "84469892f38ab5a6f2ccff8b97dcec23df2aa322bc002da7a3e0945c6b1685e0"), looks := false }, kinds := [], alts := [], laidByText := true, laidKinds := [.data], laidTests := true, laidLooks := .later }
def FormatGetsCardSaid : Prop := Claim7.holds Tryd.pinned (.plain (OpenSpec.ofChange formatGetsSpec)) formatGetsCard

/-- THE TIED CARD OF 'glazierlaw02.FormatBack'. -/
def formatBackCard : Claim7 := { stood := { row := formatBackRow, standIns := [], harness := (true, "84469892f38ab5a6f2ccff8b97dcec23df2aa322bc002da7a3e0945c6b1685e0"), looks := false }, kinds := [], alts := [], laidByText := true, laidKinds := [.data], laidTests := true, laidLooks := .later }
def FormatBackCardSaid : Prop := Claim7.holds Tryd.pinned (.plain (OpenSpec.ofChange formatBackSpec)) formatBackCard

/-- THE TIED CARD OF 'glazierlaw02.FormatOrders'. -/
def formatOrdersCard : Claim7 := { stood := { row := formatOrdersRow, standIns := [], harness := (true, "84469892f38ab5a6f2ccff8b97dcec23df2aa322bc002da7a3e0945c6b1685e0"), looks := false }, kinds := [], alts := [], laidByText := true, laidKinds := [.data], laidTests := true, laidLooks := .later }
def FormatOrdersCardSaid : Prop := Claim7.holds Tryd.pinned (.plain (OpenSpec.ofChange formatOrdersSpec)) formatOrdersCard

/-- THE TIED CARD OF 'glazierlaw02.FormatCuts'. -/
def formatCutsCard : Claim7 := { stood := { row := formatCutsRow, standIns := [], harness := (true, "84469892f38ab5a6f2ccff8b97dcec23df2aa322bc002da7a3e0945c6b1685e0"), looks := false }, kinds := [], alts := [], laidByText := true, laidKinds := [.data], laidTests := true, laidLooks := .later }
def FormatCutsCardSaid : Prop := Claim7.holds Tryd.pinned (.plain (OpenSpec.ofChange formatCutsSpec)) formatCutsCard

/-- THE TIED CARD OF 'glazierlaw02.FormatSame'. -/
def formatSameCard : Claim7 := { stood := { row := formatSameRow, standIns := [], harness := (true, "84469892f38ab5a6f2ccff8b97dcec23df2aa322bc002da7a3e0945c6b1685e0"), looks := false }, kinds := [], alts := [], laidByText := true, laidKinds := [.data], laidTests := true, laidLooks := .later }
def FormatSameCardSaid : Prop := Claim7.holds Tryd.pinned (.plain (OpenSpec.ofChange formatSameSpec)) formatSameCard

/-- THE SECOND FORM's CARD OF 'glazierlaw01.OrderPuts'. -/
def orderPutsUptoCard : Claim7 := { stood := { row := orderPutsUptoRow, standIns := [], harness := (true, "84469892f38ab5a6f2ccff8b97dcec23df2aa322bc002da7a3e0945c6b1685e0"), looks := false }, kinds := [], alts := [], laidByText := true, laidKinds := [.data], laidTests := true, laidLooks := .later }
def OrderPutsUptoCardSaid : Prop := Claim7.holds Tryd.pinned (.plain (OpenSpec.upto orderPutsSpec)) orderPutsUptoCard

/-- THE SECOND FORM's CARD OF 'glazierlaw01.OrderGets'. -/
def orderGetsUptoCard : Claim7 := { stood := { row := orderGetsUptoRow, standIns := [], harness := (true, "84469892f38ab5a6f2ccff8b97dcec23df2aa322bc002da7a3e0945c6b1685e0"), looks := false }, kinds := [], alts := [], laidByText := true, laidKinds := [.data], laidTests := true, laidLooks := .later }
def OrderGetsUptoCardSaid : Prop := Claim7.holds Tryd.pinned (.plain (OpenSpec.upto orderGetsSpec)) orderGetsUptoCard

/-- THE SECOND FORM's CARD OF 'glazierlaw01.OrderRows'. -/
def orderRowsUptoCard : Claim7 := { stood := { row := orderRowsUptoRow, standIns := [], harness := (true, "84469892f38ab5a6f2ccff8b97dcec23df2aa322bc002da7a3e0945c6b1685e0"), looks := false }, kinds := [], alts := [], laidByText := true, laidKinds := [.data], laidTests := true, laidLooks := .later }
def OrderRowsUptoCardSaid : Prop := Claim7.holds Tryd.pinned (.plain (OpenSpec.upto orderRowsSpec)) orderRowsUptoCard

/-- THE SECOND FORM's CARD OF 'glazierlaw01.OrderReads'. -/
def orderReadsUptoCard : Claim7 := { stood := { row := orderReadsUptoRow, standIns := [], harness := (true, "84469892f38ab5a6f2ccff8b97dcec23df2aa322bc002da7a3e0945c6b1685e0"), looks := false }, kinds := [], alts := [], laidByText := true, laidKinds := [.data], laidTests := true, laidLooks := .later }
def OrderReadsUptoCardSaid : Prop := Claim7.holds Tryd.pinned (.plain (OpenSpec.upto orderReadsSpec)) orderReadsUptoCard

/-- THE SECOND FORM's CARD OF 'glazierlaw01.OrderTurns'. -/
def orderTurnsUptoCard : Claim7 := { stood := { row := orderTurnsUptoRow, standIns := [], harness := (true, "84469892f38ab5a6f2ccff8b97dcec23df2aa322bc002da7a3e0945c6b1685e0"), looks := false }, kinds := [], alts := [], laidByText := true, laidKinds := [.data], laidTests := true, laidLooks := .later }
def OrderTurnsUptoCardSaid : Prop := Claim7.holds Tryd.pinned (.plain (OpenSpec.upto orderTurnsSpec)) orderTurnsUptoCard

/-- THE SECOND FORM's CARD OF 'glazierlaw01.OrderSigns'. -/
def orderSignsUptoCard : Claim7 := { stood := { row := orderSignsUptoRow, standIns := [], harness := (true, "84469892f38ab5a6f2ccff8b97dcec23df2aa322bc002da7a3e0945c6b1685e0"), looks := false }, kinds := [], alts := [], laidByText := true, laidKinds := [.data], laidTests := true, laidLooks := .later }
def OrderSignsUptoCardSaid : Prop := Claim7.holds Tryd.pinned (.plain (OpenSpec.upto orderSignsSpec)) orderSignsUptoCard

/-- THE SECOND FORM's CARD OF 'glazierlaw01.OrderPads'. -/
def orderPadsUptoCard : Claim7 := { stood := { row := orderPadsUptoRow, standIns := [], harness := (true, "84469892f38ab5a6f2ccff8b97dcec23df2aa322bc002da7a3e0945c6b1685e0"), looks := false }, kinds := [], alts := [], laidByText := true, laidKinds := [.data], laidTests := true, laidLooks := .later }
def OrderPadsUptoCardSaid : Prop := Claim7.holds Tryd.pinned (.plain (OpenSpec.upto orderPadsSpec)) orderPadsUptoCard

/-- THE SECOND FORM's CARD OF 'glazierlaw02.FormatPuts'. -/
def formatPutsUptoCard : Claim7 := { stood := { row := formatPutsUptoRow, standIns := [], harness := (true, "84469892f38ab5a6f2ccff8b97dcec23df2aa322bc002da7a3e0945c6b1685e0"), looks := false }, kinds := [], alts := [], laidByText := true, laidKinds := [.data], laidTests := true, laidLooks := .later }
def FormatPutsUptoCardSaid : Prop := Claim7.holds Tryd.pinned (.plain (OpenSpec.upto formatPutsSpec)) formatPutsUptoCard

/-- THE SECOND FORM's CARD OF 'glazierlaw02.FormatGets'. -/
def formatGetsUptoCard : Claim7 := { stood := { row := formatGetsUptoRow, standIns := [], harness := (true, "84469892f38ab5a6f2ccff8b97dcec23df2aa322bc002da7a3e0945c6b1685e0"), looks := false }, kinds := [], alts := [], laidByText := true, laidKinds := [.data], laidTests := true, laidLooks := .later }
def FormatGetsUptoCardSaid : Prop := Claim7.holds Tryd.pinned (.plain (OpenSpec.upto formatGetsSpec)) formatGetsUptoCard

/-- THE SECOND FORM's CARD OF 'glazierlaw02.FormatBack'. -/
def formatBackUptoCard : Claim7 := { stood := { row := formatBackUptoRow, standIns := [], harness := (true, "84469892f38ab5a6f2ccff8b97dcec23df2aa322bc002da7a3e0945c6b1685e0"), looks := false }, kinds := [], alts := [], laidByText := true, laidKinds := [.data], laidTests := true, laidLooks := .later }
def FormatBackUptoCardSaid : Prop := Claim7.holds Tryd.pinned (.plain (OpenSpec.upto formatBackSpec)) formatBackUptoCard

/-- THE SECOND FORM's CARD OF 'glazierlaw02.FormatOrders'. -/
def formatOrdersUptoCard : Claim7 := { stood := { row := formatOrdersUptoRow, standIns := [], harness := (true, "84469892f38ab5a6f2ccff8b97dcec23df2aa322bc002da7a3e0945c6b1685e0"), looks := false }, kinds := [], alts := [], laidByText := true, laidKinds := [.data], laidTests := true, laidLooks := .later }
def FormatOrdersUptoCardSaid : Prop := Claim7.holds Tryd.pinned (.plain (OpenSpec.upto formatOrdersSpec)) formatOrdersUptoCard

/-- THE SECOND FORM's CARD OF 'glazierlaw02.FormatCuts'. -/
def formatCutsUptoCard : Claim7 := { stood := { row := formatCutsUptoRow, standIns := [], harness := (true, "84469892f38ab5a6f2ccff8b97dcec23df2aa322bc002da7a3e0945c6b1685e0"), looks := false }, kinds := [], alts := [], laidByText := true, laidKinds := [.data], laidTests := true, laidLooks := .later }
def FormatCutsUptoCardSaid : Prop := Claim7.holds Tryd.pinned (.plain (OpenSpec.upto formatCutsSpec)) formatCutsUptoCard

/-- THE SECOND FORM's CARD OF 'glazierlaw02.FormatSame'. -/
def formatSameUptoCard : Claim7 := { stood := { row := formatSameUptoRow, standIns := [], harness := (true, "84469892f38ab5a6f2ccff8b97dcec23df2aa322bc002da7a3e0945c6b1685e0"), looks := false }, kinds := [], alts := [], laidByText := true, laidKinds := [.data], laidTests := true, laidLooks := .later }
def FormatSameUptoCardSaid : Prop := Claim7.holds Tryd.pinned (.plain (OpenSpec.upto formatSameSpec)) formatSameUptoCard
end Rows
end Go.Proofs.YtbbblopackffiaaDoor
