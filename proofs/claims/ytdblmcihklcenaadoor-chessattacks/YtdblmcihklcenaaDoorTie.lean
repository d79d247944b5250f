/-
  DERIVED. GIVEN WITH THE SEED: THE PROGRAM's TIES (one call each: nine closed facts by the kernel) AND EACH ROW's TIE, after the 31st guide's Derived/Test/Toyas{Tie, Card}.lean. No idea stands in it: it is a product of the set-up. Laid BY PROGRAM, IN A SANDBOX (cutbox-door.mjs). By AI agents, Wed Nov 11 2026. No macro, syntax, notation, axiom, sorry.
-/
import Derived.Test.YtdblmcihklcenaaDoorRows
import Derived.LaidByTextLater
import Derived.SevenTiedAt
import Derived.LaidSub
import Derived.LaidOnce
namespace Go.Proofs.YtdblmcihklcenaaDoor
open Go
set_option maxRecDepth 100000
theorem seatTie1 : Tryd.prog.laidByTextLater [("gameroom/chess.castlings", Rows.laid_gameroom_chess_castlings), ("gameroom/chess.worth", Rows.laid_gameroom_chess_worth), ("gameroom/chess.steps", Rows.laid_gameroom_chess_steps)] [.data, .data, .data] true :=
  Program.laidByTextLater_by_one 44 8 33 (by kernel_rfl) (by kernel_rfl) (by kernel_rfl) (by kernel_rfl) (by kernel_rfl) (by kernel_rfl) (fun _ _ => by kernel_rfl)
theorem noOwnUnsafe : Tryd.pinned.checked.prog.headLifts.contains "ownunsafe" = false := by kernel_rfl
theorem tie : Tryd.prog.laidByTextLater [("gameroom/chess.castlings", Rows.laid_gameroom_chess_castlings), ("gameroom/chess.worth", Rows.laid_gameroom_chess_worth), ("gameroom/chess.steps", Rows.laid_gameroom_chess_steps)] [.data, .data, .data] true :=
  Program.laidByTextLater.sub seatTie1 ["gameroom/chess.castlings", "gameroom/chess.worth", "gameroom/chess.steps"] (by kernel_rfl) (by kernel_rfl)
theorem chessAttacks_row_tie : Rows.chessAttacksRow.laidByTextAt .later Tryd.pinned [.data, .data, .data] true :=
  OpenClaim.laidByTextAt_later rfl rfl tie noOwnUnsafe
theorem chessAttacksUpto_row_tie : Rows.chessAttacksUptoRow.laidByTextAt .later Tryd.pinned [.data, .data, .data] true :=
  OpenClaim.laidByTextAt_later rfl rfl tie noOwnUnsafe
end Go.Proofs.YtdblmcihklcenaaDoor
