/-
  DERIVED. GIVEN WITH THE SEED: THE CARDS: each row of YticalbpohhpjaaaDoorRows.lean that lists a variable, with what it lists TIED to the program's text (the seventh form; the later family's looks); each row that meets fmt, with fmt's text TOLD by the authors' own Lean function (tested against real Go, not proved from fmt's source: count such statements apart). THE CARD IS WHAT COUNTS. Prove the row's statement (the work); the ties are given (YticalbpohhpjaaaDoorTie.lean); close each card by the builder's one call (the guide's Derived/Test/ToyasCard.lean, 'card_holds'). Laid BY PROGRAM, IN A SANDBOX (cutbox-door.mjs). By AI agents, Wed Nov 11 2026. No macro, syntax, notation, axiom, sorry.
-/
import Derived.Test.YticalbpohhpjaaaDoorRows
import GoSem.ClaimSeven
namespace Go.Proofs.YticalbpohhpjaaaDoor
namespace Rows

/-- THE TIED CARD OF 'gameroomlaw.SlideMoves'. -/
def slideMovesCard : Claim7 := { stood := { row := slideMovesRow, standIns := [], harness := (true, "2d30ea6829e9e375942265f67db6ac653932c01e3c063294f8e74be6121f8387"), looks := false }, kinds := [], alts := [], laidByText := true, laidKinds := [.data], laidTests := true, laidLooks := .later }
def SlideMovesCardSaid : Prop := Claim7.holds Tryd.pinned (.plain (OpenSpec.ofChange slideMovesSpec)) slideMovesCard

/-- THE TIED CARD OF 'gameroomlaw.SlideHomes'. -/
def slideHomesCard : Claim7 := { stood := { row := slideHomesRow, standIns := [], harness := (true, "2d30ea6829e9e375942265f67db6ac653932c01e3c063294f8e74be6121f8387"), looks := false }, kinds := [], alts := [], laidByText := true, laidKinds := [.data], laidTests := true, laidLooks := .later }
def SlideHomesCardSaid : Prop := Claim7.holds Tryd.pinned (.plain (OpenSpec.ofChange slideHomesSpec)) slideHomesCard

/-- THE TIED CARD OF 'gameroomkeep.SlideHalf'. -/
def slideHalfCard : Claim7 := { stood := { row := slideHalfRow, standIns := [], harness := (true, "2d30ea6829e9e375942265f67db6ac653932c01e3c063294f8e74be6121f8387"), looks := false }, kinds := [], alts := [], laidByText := true, laidKinds := [.data], laidTests := true, laidLooks := .later }
def SlideHalfCardSaid : Prop := Claim7.holds Tryd.pinned (.plain (OpenSpec.ofChange slideHalfSpec)) slideHalfCard

/-- THE TIED CARD OF 'gameroomkeep.SlideShort'. -/
def slideShortCard : Claim7 := { stood := { row := slideShortRow, standIns := [], harness := (true, "2d30ea6829e9e375942265f67db6ac653932c01e3c063294f8e74be6121f8387"), looks := false }, kinds := [], alts := [], laidByText := true, laidKinds := [.data], laidTests := true, laidLooks := .later }
def SlideShortCardSaid : Prop := Claim7.holds Tryd.pinned (.plain (OpenSpec.ofChange slideShortSpec)) slideShortCard

/-- THE SECOND FORM's CARD OF 'gameroomlaw.SlideMoves'. -/
def slideMovesUptoCard : Claim7 := { stood := { row := slideMovesUptoRow, standIns := [], harness := (true, "2d30ea6829e9e375942265f67db6ac653932c01e3c063294f8e74be6121f8387"), looks := false }, kinds := [], alts := [], laidByText := true, laidKinds := [.data], laidTests := true, laidLooks := .later }
def SlideMovesUptoCardSaid : Prop := Claim7.holds Tryd.pinned (.plain (OpenSpec.upto slideMovesSpec)) slideMovesUptoCard

/-- THE SECOND FORM's CARD OF 'gameroomlaw.SlideHomes'. -/
def slideHomesUptoCard : Claim7 := { stood := { row := slideHomesUptoRow, standIns := [], harness := (true, "2d30ea6829e9e375942265f67db6ac653932c01e3c063294f8e74be6121f8387"), looks := false }, kinds := [], alts := [], laidByText := true, laidKinds := [.data], laidTests := true, laidLooks := .later }
def SlideHomesUptoCardSaid : Prop := Claim7.holds Tryd.pinned (.plain (OpenSpec.upto slideHomesSpec)) slideHomesUptoCard

/-- THE SECOND FORM's CARD OF 'gameroomkeep.SlideHalf'. -/
def slideHalfUptoCard : Claim7 := { stood := { row := slideHalfUptoRow, standIns := [], harness := (true, "2d30ea6829e9e375942265f67db6ac653932c01e3c063294f8e74be6121f8387"), looks := false }, kinds := [], alts := [], laidByText := true, laidKinds := [.data], laidTests := true, laidLooks := .later }
def SlideHalfUptoCardSaid : Prop := Claim7.holds Tryd.pinned (.plain (OpenSpec.upto slideHalfSpec)) slideHalfUptoCard

/-- THE SECOND FORM's CARD OF 'gameroomkeep.SlideShort'. -/
def slideShortUptoCard : Claim7 := { stood := { row := slideShortUptoRow, standIns := [], harness := (true, "2d30ea6829e9e375942265f67db6ac653932c01e3c063294f8e74be6121f8387"), looks := false }, kinds := [], alts := [], laidByText := true, laidKinds := [.data], laidTests := true, laidLooks := .later }
def SlideShortUptoCardSaid : Prop := Claim7.holds Tryd.pinned (.plain (OpenSpec.upto slideShortSpec)) slideShortUptoCard
end Rows
end Go.Proofs.YticalbpohhpjaaaDoor
