/-
  DERIVED. GIVEN WITH THE SEED: THE CARDS: each row of YthdnbbjehcicbaaDoorRows.lean that lists a variable, with what it lists TIED to the program's text (the seventh form; the later family's looks); each row that meets fmt, with fmt's text TOLD by the authors' own Lean function (tested against real Go, not proved from fmt's source: count such statements apart). THE CARD IS WHAT COUNTS. Prove the row's statement (the work); the ties are given (YthdnbbjehcicbaaDoorTie.lean); close each card by the builder's one call (the guide's Derived/Test/ToyasCard.lean, 'card_holds'). Laid BY PROGRAM, IN A SANDBOX (cutbox-door.mjs). By AI agents, Wed Nov 11 2026. No macro, syntax, notation, axiom, sorry.
-/
import Derived.Test.YthdnbbjehcicbaaDoorRows
import GoSem.ClaimSeven
namespace Go.Proofs.YthdnbbjehcicbaaDoor
namespace Rows

/-- THE TIED CARD OF 'gameroomlaw.RowsWins'. -/
def rowsWinsCard : Claim7 := { stood := { row := rowsWinsRow, standIns := [], harness := (true, "634d00bd17f7499e7a8e04f87326865927c018684fe613aba1009f2ef4cbbccb"), looks := false }, kinds := [], alts := [], laidByText := true, laidKinds := [.data], laidTests := true, laidLooks := .later }
def RowsWinsCardSaid : Prop := Claim7.holds Tryd.pinned (.plain (OpenSpec.ofChange rowsWinsSpec)) rowsWinsCard

/-- THE TIED CARD OF 'gameroomlaw.RowsSolves'. -/
def rowsSolvesCard : Claim7 := { stood := { row := rowsSolvesRow, standIns := [], harness := (true, "634d00bd17f7499e7a8e04f87326865927c018684fe613aba1009f2ef4cbbccb"), looks := false }, kinds := [], alts := [], laidByText := true, laidKinds := [.data], laidTests := true, laidLooks := .later }
def RowsSolvesCardSaid : Prop := Claim7.holds Tryd.pinned (.plain (OpenSpec.ofChange rowsSolvesSpec)) rowsSolvesCard

/-- THE TIED CARD OF 'gameroomkeep.RowsTurned'. -/
def rowsTurnedCard : Claim7 := { stood := { row := rowsTurnedRow, standIns := [], harness := (true, "634d00bd17f7499e7a8e04f87326865927c018684fe613aba1009f2ef4cbbccb"), looks := false }, kinds := [], alts := [], laidByText := true, laidKinds := [.data], laidTests := true, laidLooks := .later }
def RowsTurnedCardSaid : Prop := Claim7.holds Tryd.pinned (.plain (OpenSpec.ofChange rowsTurnedSpec)) rowsTurnedCard

/-- THE TIED CARD OF 'gameroomkeep.RowsFirst'. -/
def rowsFirstCard : Claim7 := { stood := { row := rowsFirstRow, standIns := [], harness := (true, "634d00bd17f7499e7a8e04f87326865927c018684fe613aba1009f2ef4cbbccb"), looks := false }, kinds := [], alts := [], laidByText := true, laidKinds := [.data], laidTests := true, laidLooks := .later }
def RowsFirstCardSaid : Prop := Claim7.holds Tryd.pinned (.plain (OpenSpec.ofChange rowsFirstSpec)) rowsFirstCard

/-- THE SECOND FORM's CARD OF 'gameroomlaw.RowsWins'. -/
def rowsWinsUptoCard : Claim7 := { stood := { row := rowsWinsUptoRow, standIns := [], harness := (true, "634d00bd17f7499e7a8e04f87326865927c018684fe613aba1009f2ef4cbbccb"), looks := false }, kinds := [], alts := [], laidByText := true, laidKinds := [.data], laidTests := true, laidLooks := .later }
def RowsWinsUptoCardSaid : Prop := Claim7.holds Tryd.pinned (.plain (OpenSpec.upto rowsWinsSpec)) rowsWinsUptoCard

/-- THE SECOND FORM's CARD OF 'gameroomlaw.RowsSolves'. -/
def rowsSolvesUptoCard : Claim7 := { stood := { row := rowsSolvesUptoRow, standIns := [], harness := (true, "634d00bd17f7499e7a8e04f87326865927c018684fe613aba1009f2ef4cbbccb"), looks := false }, kinds := [], alts := [], laidByText := true, laidKinds := [.data], laidTests := true, laidLooks := .later }
def RowsSolvesUptoCardSaid : Prop := Claim7.holds Tryd.pinned (.plain (OpenSpec.upto rowsSolvesSpec)) rowsSolvesUptoCard

/-- THE SECOND FORM's CARD OF 'gameroomkeep.RowsTurned'. -/
def rowsTurnedUptoCard : Claim7 := { stood := { row := rowsTurnedUptoRow, standIns := [], harness := (true, "634d00bd17f7499e7a8e04f87326865927c018684fe613aba1009f2ef4cbbccb"), looks := false }, kinds := [], alts := [], laidByText := true, laidKinds := [.data], laidTests := true, laidLooks := .later }
def RowsTurnedUptoCardSaid : Prop := Claim7.holds Tryd.pinned (.plain (OpenSpec.upto rowsTurnedSpec)) rowsTurnedUptoCard

/-- THE SECOND FORM's CARD OF 'gameroomkeep.RowsFirst'. -/
def rowsFirstUptoCard : Claim7 := { stood := { row := rowsFirstUptoRow, standIns := [], harness := (true, "634d00bd17f7499e7a8e04f87326865927c018684fe613aba1009f2ef4cbbccb"), looks := false }, kinds := [], alts := [], laidByText := true, laidKinds := [.data], laidTests := true, laidLooks := .later }
def RowsFirstUptoCardSaid : Prop := Claim7.holds Tryd.pinned (.plain (OpenSpec.upto rowsFirstSpec)) rowsFirstUptoCard
end Rows
end Go.Proofs.YthdnbbjehcicbaaDoor
