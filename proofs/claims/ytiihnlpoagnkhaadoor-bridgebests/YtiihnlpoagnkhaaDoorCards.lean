/-
  DERIVED. GIVEN WITH THE SEED: THE CARDS: each row of YtiihnlpoagnkhaaDoorRows.lean that lists a variable, with what it lists TIED to the program's text (the seventh form; the later family's looks); each row that meets fmt, with fmt's text TOLD by the authors' own Lean function (tested against real Go, not proved from fmt's source: count such statements apart). THE CARD IS WHAT COUNTS. Prove the row's statement (the work); the ties are given (YtiihnlpoagnkhaaDoorTie.lean); close each card by the builder's one call (the guide's Derived/Test/ToyasCard.lean, 'card_holds'). Laid BY PROGRAM, IN A SANDBOX (cutbox-door.mjs). By AI agents, Wed Nov 11 2026. No macro, syntax, notation, axiom, sorry.
-/
import Derived.Test.YtiihnlpoagnkhaaDoorRows
import GoSem.ClaimSeven
namespace Go.Proofs.YtiihnlpoagnkhaaDoor
namespace Rows

/-- THE TIED CARD OF 'gameroomlaw.BridgeBests'. -/
def bridgeBestsCard : Claim7 := { stood := { row := bridgeBestsRow, standIns := [], harness := (true, "d1085f927be5869926f1179971840cba9eeefd1dfbf44e20d43b285b5b434f44"), looks := false }, kinds := [], alts := [], laidByText := true, laidKinds := [.data], laidTests := true, laidLooks := .later }
def BridgeBestsCardSaid : Prop := Claim7.holds Tryd.pinned (.plain (OpenSpec.ofChange bridgeBestsSpec)) bridgeBestsCard

/-- THE TIED CARD OF 'gameroomkeep.BridgeTurns'. -/
def bridgeTurnsCard : Claim7 := { stood := { row := bridgeTurnsRow, standIns := [], harness := (true, "d1085f927be5869926f1179971840cba9eeefd1dfbf44e20d43b285b5b434f44"), looks := false }, kinds := [], alts := [], laidByText := true, laidKinds := [.data], laidTests := true, laidLooks := .later }
def BridgeTurnsCardSaid : Prop := Claim7.holds Tryd.pinned (.plain (OpenSpec.ofChange bridgeTurnsSpec)) bridgeTurnsCard

/-- THE SECOND FORM's CARD OF 'gameroomlaw.BridgeBests'. -/
def bridgeBestsUptoCard : Claim7 := { stood := { row := bridgeBestsUptoRow, standIns := [], harness := (true, "d1085f927be5869926f1179971840cba9eeefd1dfbf44e20d43b285b5b434f44"), looks := false }, kinds := [], alts := [], laidByText := true, laidKinds := [.data], laidTests := true, laidLooks := .later }
def BridgeBestsUptoCardSaid : Prop := Claim7.holds Tryd.pinned (.plain (OpenSpec.upto bridgeBestsSpec)) bridgeBestsUptoCard

/-- THE SECOND FORM's CARD OF 'gameroomkeep.BridgeTurns'. -/
def bridgeTurnsUptoCard : Claim7 := { stood := { row := bridgeTurnsUptoRow, standIns := [], harness := (true, "d1085f927be5869926f1179971840cba9eeefd1dfbf44e20d43b285b5b434f44"), looks := false }, kinds := [], alts := [], laidByText := true, laidKinds := [.data], laidTests := true, laidLooks := .later }
def BridgeTurnsUptoCardSaid : Prop := Claim7.holds Tryd.pinned (.plain (OpenSpec.upto bridgeTurnsSpec)) bridgeTurnsUptoCard
end Rows
end Go.Proofs.YtiihnlpoagnkhaaDoor
