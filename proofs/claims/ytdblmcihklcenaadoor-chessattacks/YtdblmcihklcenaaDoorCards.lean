/-
  DERIVED. GIVEN WITH THE SEED: THE CARDS: each row of YtdblmcihklcenaaDoorRows.lean that lists a variable, with what it lists TIED to the program's text (the seventh form; the later family's looks); each row that meets fmt, with fmt's text TOLD by the authors' own Lean function (tested against real Go, not proved from fmt's source: count such statements apart). THE CARD IS WHAT COUNTS. Prove the row's statement (the work); the ties are given (YtdblmcihklcenaaDoorTie.lean); close each card by the builder's one call (the guide's Derived/Test/ToyasCard.lean, 'card_holds'). Laid BY PROGRAM, IN A SANDBOX (cutbox-door.mjs). By AI agents, Wed Nov 11 2026. No macro, syntax, notation, axiom, sorry.
-/
import Derived.Test.YtdblmcihklcenaaDoorRows
import GoSem.ClaimSeven
namespace Go.Proofs.YtdblmcihklcenaaDoor
namespace Rows

/-- THE TIED CARD OF 'gameroomlaw.ChessAttacks'. -/
def chessAttacksCard : Claim7 := { stood := { row := chessAttacksRow, standIns := [], harness := (true, "f01f9c4e51289b01a22013e701cc685f9f23ac659f0f6e4c48d6133b30475bc0"), looks := false }, kinds := [], alts := [], laidByText := true, laidKinds := [.data, .data, .data], laidTests := true, laidLooks := .later }
def ChessAttacksCardSaid : Prop := Claim7.holds Tryd.pinned (.plain (OpenSpec.ofChange chessAttacksSpec)) chessAttacksCard

/-- THE SECOND FORM's CARD OF 'gameroomlaw.ChessAttacks'. -/
def chessAttacksUptoCard : Claim7 := { stood := { row := chessAttacksUptoRow, standIns := [], harness := (true, "f01f9c4e51289b01a22013e701cc685f9f23ac659f0f6e4c48d6133b30475bc0"), looks := false }, kinds := [], alts := [], laidByText := true, laidKinds := [.data, .data, .data], laidTests := true, laidLooks := .later }
def ChessAttacksUptoCardSaid : Prop := Claim7.holds Tryd.pinned (.plain (OpenSpec.upto chessAttacksSpec)) chessAttacksUptoCard
end Rows
end Go.Proofs.YtdblmcihklcenaaDoor
