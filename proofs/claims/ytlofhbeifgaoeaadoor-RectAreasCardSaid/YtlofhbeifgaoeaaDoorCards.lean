/-
  DERIVED. GIVEN WITH THE SEED: THE CARDS: each row of YtlofhbeifgaoeaaDoorRows.lean that lists a variable, with what it lists TIED to the program's text (the seventh form; the later family's looks); each row that meets fmt, with fmt's text TOLD by the authors' own Lean function (tested against real Go, not proved from fmt's source: count such statements apart). THE CARD IS WHAT COUNTS. Prove the row's statement (the work); the ties are given (YtlofhbeifgaoeaaDoorTie.lean); close each card by the builder's one call (the guide's Derived/Test/ToyasCard.lean, 'card_holds'). Laid BY PROGRAM, IN A SANDBOX (cutbox-door.mjs). By AI agents, Wed Nov 11 2026. No macro, syntax, notation, axiom, sorry.
-/
import Derived.Test.YtlofhbeifgaoeaaDoorRows
import GoSem.ClaimSeven
namespace Go.Proofs.YtlofhbeifgaoeaaDoor
namespace Rows

/-- THE TIED CARD OF 'glazierlaw12.RectTells'. -/
def rectTellsCard : Claim7 := { stood := { row := rectTellsRow, standIns := [], harness := (true, "21a69139342ce8fd8024b4300aad3fdd7adaa718f6b906422d8e127a37b7220e"), looks := false }, kinds := [], alts := [], laidByText := true, laidKinds := [.data], laidTests := true, laidLooks := .later }
def RectTellsCardSaid : Prop := Claim7.holds Tryd.pinned (.plain (OpenSpec.ofChange rectTellsSpec)) rectTellsCard

/-- THE TIED CARD OF 'glazierlaw12.RectPlaces'. -/
def rectPlacesCard : Claim7 := { stood := { row := rectPlacesRow, standIns := [], harness := (true, "21a69139342ce8fd8024b4300aad3fdd7adaa718f6b906422d8e127a37b7220e"), looks := false }, kinds := [], alts := [], laidByText := true, laidKinds := [.data], laidTests := true, laidLooks := .later }
def RectPlacesCardSaid : Prop := Claim7.holds Tryd.pinned (.plain (OpenSpec.ofChange rectPlacesSpec)) rectPlacesCard

/-- THE TIED CARD OF 'glazierlaw12.RectAreas'. -/
def rectAreasCard : Claim7 := { stood := { row := rectAreasRow, standIns := [], harness := (true, "21a69139342ce8fd8024b4300aad3fdd7adaa718f6b906422d8e127a37b7220e"), looks := false }, kinds := [], alts := [], laidByText := true, laidKinds := [.data], laidTests := true, laidLooks := .later }
def RectAreasCardSaid : Prop := Claim7.holds Tryd.pinned (.plain (OpenSpec.ofChange rectAreasSpec)) rectAreasCard

/-- THE TIED CARD OF 'glazierlaw12.RectMoves'. -/
def rectMovesCard : Claim7 := { stood := { row := rectMovesRow, standIns := [], harness := (true, "21a69139342ce8fd8024b4300aad3fdd7adaa718f6b906422d8e127a37b7220e"), looks := false }, kinds := [], alts := [], laidByText := true, laidKinds := [.data], laidTests := true, laidLooks := .later }
def RectMovesCardSaid : Prop := Claim7.holds Tryd.pinned (.plain (OpenSpec.ofChange rectMovesSpec)) rectMovesCard

/-- THE TIED CARD OF 'glazierlaw12.RectThere'. -/
def rectThereCard : Claim7 := { stood := { row := rectThereRow, standIns := [], harness := (true, "21a69139342ce8fd8024b4300aad3fdd7adaa718f6b906422d8e127a37b7220e"), looks := false }, kinds := [], alts := [], laidByText := true, laidKinds := [.data], laidTests := true, laidLooks := .later }
def RectThereCardSaid : Prop := Claim7.holds Tryd.pinned (.plain (OpenSpec.ofChange rectThereSpec)) rectThereCard

/-- THE TIED CARD OF 'glazierlaw12.RectMany'. -/
def rectManyCard : Claim7 := { stood := { row := rectManyRow, standIns := [], harness := (true, "21a69139342ce8fd8024b4300aad3fdd7adaa718f6b906422d8e127a37b7220e"), looks := false }, kinds := [], alts := [], laidByText := true, laidKinds := [.data], laidTests := true, laidLooks := .later }
def RectManyCardSaid : Prop := Claim7.holds Tryd.pinned (.plain (OpenSpec.ofChange rectManySpec)) rectManyCard

/-- THE SECOND FORM's CARD OF 'glazierlaw12.RectTells'. -/
def rectTellsUptoCard : Claim7 := { stood := { row := rectTellsUptoRow, standIns := [], harness := (true, "21a69139342ce8fd8024b4300aad3fdd7adaa718f6b906422d8e127a37b7220e"), looks := false }, kinds := [], alts := [], laidByText := true, laidKinds := [.data], laidTests := true, laidLooks := .later }
def RectTellsUptoCardSaid : Prop := Claim7.holds Tryd.pinned (.plain (OpenSpec.upto rectTellsSpec)) rectTellsUptoCard

/-- THE SECOND FORM's CARD OF 'glazierlaw12.RectPlaces'. -/
def rectPlacesUptoCard : Claim7 := { stood := { row := rectPlacesUptoRow, standIns := [], harness := (true, "21a69139342ce8fd8024b4300aad3fdd7adaa718f6b906422d8e127a37b7220e"), looks := false }, kinds := [], alts := [], laidByText := true, laidKinds := [.data], laidTests := true, laidLooks := .later }
def RectPlacesUptoCardSaid : Prop := Claim7.holds Tryd.pinned (.plain (OpenSpec.upto rectPlacesSpec)) rectPlacesUptoCard

/-- THE SECOND FORM's CARD OF 'glazierlaw12.RectAreas'. -/
def rectAreasUptoCard : Claim7 := { stood := { row := rectAreasUptoRow, standIns := [], harness := (true, "21a69139342ce8fd8024b4300aad3fdd7adaa718f6b906422d8e127a37b7220e"), looks := false }, kinds := [], alts := [], laidByText := true, laidKinds := [.data], laidTests := true, laidLooks := .later }
def RectAreasUptoCardSaid : Prop := Claim7.holds Tryd.pinned (.plain (OpenSpec.upto rectAreasSpec)) rectAreasUptoCard

/-- THE SECOND FORM's CARD OF 'glazierlaw12.RectMoves'. -/
def rectMovesUptoCard : Claim7 := { stood := { row := rectMovesUptoRow, standIns := [], harness := (true, "21a69139342ce8fd8024b4300aad3fdd7adaa718f6b906422d8e127a37b7220e"), looks := false }, kinds := [], alts := [], laidByText := true, laidKinds := [.data], laidTests := true, laidLooks := .later }
def RectMovesUptoCardSaid : Prop := Claim7.holds Tryd.pinned (.plain (OpenSpec.upto rectMovesSpec)) rectMovesUptoCard

/-- THE SECOND FORM's CARD OF 'glazierlaw12.RectThere'. -/
def rectThereUptoCard : Claim7 := { stood := { row := rectThereUptoRow, standIns := [], harness := (true, "21a69139342ce8fd8024b4300aad3fdd7adaa718f6b906422d8e127a37b7220e"), looks := false }, kinds := [], alts := [], laidByText := true, laidKinds := [.data], laidTests := true, laidLooks := .later }
def RectThereUptoCardSaid : Prop := Claim7.holds Tryd.pinned (.plain (OpenSpec.upto rectThereSpec)) rectThereUptoCard

/-- THE SECOND FORM's CARD OF 'glazierlaw12.RectMany'. -/
def rectManyUptoCard : Claim7 := { stood := { row := rectManyUptoRow, standIns := [], harness := (true, "21a69139342ce8fd8024b4300aad3fdd7adaa718f6b906422d8e127a37b7220e"), looks := false }, kinds := [], alts := [], laidByText := true, laidKinds := [.data], laidTests := true, laidLooks := .later }
def RectManyUptoCardSaid : Prop := Claim7.holds Tryd.pinned (.plain (OpenSpec.upto rectManySpec)) rectManyUptoCard
end Rows
end Go.Proofs.YtlofhbeifgaoeaaDoor
