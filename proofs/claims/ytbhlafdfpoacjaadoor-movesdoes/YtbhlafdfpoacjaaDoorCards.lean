/-
  DERIVED. GIVEN WITH THE SEED: THE CARDS: each row of YtbhlafdfpoacjaaDoorRows.lean that lists a variable, with what it lists TIED to the program's text (the seventh form; the later family's looks); each row that meets fmt, with fmt's text TOLD by the authors' own Lean function (tested against real Go, not proved from fmt's source: count such statements apart). THE CARD IS WHAT COUNTS. Prove the row's statement (the work); the ties are given (YtbhlafdfpoacjaaDoorTie.lean); close each card by the builder's one call (the guide's Derived/Test/ToyasCard.lean, 'card_holds'). Laid BY PROGRAM, IN A SANDBOX (cutbox-door.mjs). By AI agents, Wed Nov 11 2026. No macro, syntax, notation, axiom, sorry.
-/
import Derived.Test.YtbhlafdfpoacjaaDoorRows
import GoSem.ClaimSeven
namespace Go.Proofs.YtbhlafdfpoacjaaDoor
namespace Rows

/-- THE TIED CARD OF 'gameroomlaw.MovesDoes'. -/
def movesDoesCard : Claim7 := { stood := { row := movesDoesRow, standIns := [], harness := (true, "51d141b20fb4871bd6189fd5c35b37d1bcff5db7b47d1c00a4ec16f4646dcefb"), looks := false }, kinds := [], alts := [], laidByText := true, laidKinds := [.data, .data, .data], laidTests := true, laidLooks := .later }
def MovesDoesCardSaid : Prop := Claim7.holds Tryd.pinned (.plain (OpenSpec.ofChange movesDoesSpec)) movesDoesCard

/-- THE TIED CARD OF 'gameroomlaw.MovesCounts'. -/
def movesCountsCard : Claim7 := { stood := { row := movesCountsRow, standIns := [], harness := (true, "51d141b20fb4871bd6189fd5c35b37d1bcff5db7b47d1c00a4ec16f4646dcefb"), looks := false }, kinds := [], alts := [], laidByText := true, laidKinds := [.data, .data], laidTests := true, laidLooks := .later }
def MovesCountsCardSaid : Prop := Claim7.holds Tryd.pinned (.plain (OpenSpec.ofChange movesCountsSpec)) movesCountsCard

/-- THE TIED CARD OF 'gameroomlaw.MovesPlays'. -/
def movesPlaysCard : Claim7 := { stood := { row := movesPlaysRow, standIns := [], harness := (true, "51d141b20fb4871bd6189fd5c35b37d1bcff5db7b47d1c00a4ec16f4646dcefb"), looks := false }, kinds := [], alts := [], laidByText := true, laidKinds := [.data, .data], laidTests := true, laidLooks := .later }
def MovesPlaysCardSaid : Prop := Claim7.holds Tryd.pinned (.plain (OpenSpec.ofChange movesPlaysSpec)) movesPlaysCard

/-- THE SECOND FORM's CARD OF 'gameroomlaw.MovesDoes'. -/
def movesDoesUptoCard : Claim7 := { stood := { row := movesDoesUptoRow, standIns := [], harness := (true, "51d141b20fb4871bd6189fd5c35b37d1bcff5db7b47d1c00a4ec16f4646dcefb"), looks := false }, kinds := [], alts := [], laidByText := true, laidKinds := [.data, .data, .data], laidTests := true, laidLooks := .later }
def MovesDoesUptoCardSaid : Prop := Claim7.holds Tryd.pinned (.plain (OpenSpec.upto movesDoesSpec)) movesDoesUptoCard

/-- THE SECOND FORM's CARD OF 'gameroomlaw.MovesCounts'. -/
def movesCountsUptoCard : Claim7 := { stood := { row := movesCountsUptoRow, standIns := [], harness := (true, "51d141b20fb4871bd6189fd5c35b37d1bcff5db7b47d1c00a4ec16f4646dcefb"), looks := false }, kinds := [], alts := [], laidByText := true, laidKinds := [.data, .data], laidTests := true, laidLooks := .later }
def MovesCountsUptoCardSaid : Prop := Claim7.holds Tryd.pinned (.plain (OpenSpec.upto movesCountsSpec)) movesCountsUptoCard

/-- THE SECOND FORM's CARD OF 'gameroomlaw.MovesPlays'. -/
def movesPlaysUptoCard : Claim7 := { stood := { row := movesPlaysUptoRow, standIns := [], harness := (true, "51d141b20fb4871bd6189fd5c35b37d1bcff5db7b47d1c00a4ec16f4646dcefb"), looks := false }, kinds := [], alts := [], laidByText := true, laidKinds := [.data, .data], laidTests := true, laidLooks := .later }
def MovesPlaysUptoCardSaid : Prop := Claim7.holds Tryd.pinned (.plain (OpenSpec.upto movesPlaysSpec)) movesPlaysUptoCard
end Rows
end Go.Proofs.YtbhlafdfpoacjaaDoor
