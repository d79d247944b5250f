/-
  NARROWER THAN 'FOR EVERY INPUT', by the rows' own cells (each row's printed sentence says how): ChessAttacks: laid.
  DERIVED. THE GIVEN ROWS OF THIS SEAT. 1 by the template 'for every input the law returns true; each argument reads behind the call as it read before'; 0 by the template 'total and deterministic' (their statements: YtdblmcihklcenaaDoorTotals.lean).
  GIVEN WITH THE SEED: the statements are not yours to turn. If you find one false, say at which input.
  Laid BY PROGRAM, IN A SANDBOX (cutbox-rows.mjs): the forced cells as the released guide's own fill.sh prints them over the translation f62aea5a87909219… (all of the seat's roots in one cut). By AI agents, Wed Nov 11 2026. No macro, syntax, notation, axiom, sorry.
-/
import Derived.Test.YtdblmcihklcenaaDoorChecked
import GoSem.Claim
import GoSem.ClaimJoined
import GoSem.ClaimMapViews
import Derived.JoinedTies
import Derived.KernelRfl
namespace Go.Proofs.YtdblmcihklcenaaDoor
/- THE CELL 'sum', in the pinned program and in every row, IS THE sha256 OF THE DUMP (.gsa) THAT YtdblmcihklcenaaDoorProg.lean LOADS. Nothing in Lean hashes anything: it is a label: what it is worth is what the hold of that sum in a sandbox is worth. -/
noncomputable def Tryd.pinned : Pinned := { name := "ytdblmcihklcenaadoor", sum := "f62aea5a87909219d4fa9f8e7eb813f735616354d71545bd2ae92038938ecf14", checked := Tryd.checked }
namespace Rows
def none {H : Type} : Left H := { results := [], args := [] }

/- WHAT THE LISTED PACKAGE-LEVEL VARIABLES READ AS WHEN THE CALL BEGINS. Each datum BY PROGRAM (the guide's laid-datum.mjs) off the statement by which the dump's own 'gosem.cut.vars' lays the variable. In a bare row this is a premise. The card (YtdblmcihklcenaaDoorCards.lean) ties it to the program's text. -/
def laid_gameroom_chess_castlings {H : Type} : DataW H := .agg [.agg [.lit (.int .i64 0), .lit (.int .i64 4), .lit (.int .i64 7)], .agg [.lit (.int .i64 0), .lit (.int .i64 4), .lit (.int .i64 0)], .agg [.lit (.int .i64 1), .lit (.int .i64 60), .lit (.int .i64 63)], .agg [.lit (.int .i64 1), .lit (.int .i64 60), .lit (.int .i64 56)]]
def laid_gameroom_chess_worth {H : Type} : DataW H := .agg [.lit (.int .i64 0), .lit (.int .i64 1), .lit (.int .i64 3), .lit (.int .i64 3), .lit (.int .i64 5), .lit (.int .i64 9), .lit (.int .i64 0)]
def laid_gameroom_chess_steps {H : Type} : DataW H := .agg [.agg [.lit (.int .i64 1), .lit (.int .i64 0)], .agg [.lit (.int .i64 0), .lit (.int .i64 1)], .agg [.lit (.int .i64 (-1)), .lit (.int .i64 0)], .agg [.lit (.int .i64 0), .lit (.int .i64 (-1))], .agg [.lit (.int .i64 1), .lit (.int .i64 1)], .agg [.lit (.int .i64 (-1)), .lit (.int .i64 1)], .agg [.lit (.int .i64 1), .lit (.int .i64 (-1))], .agg [.lit (.int .i64 (-1)), .lit (.int .i64 (-1))], .agg [.lit (.int .i64 1), .lit (.int .i64 2)], .agg [.lit (.int .i64 2), .lit (.int .i64 1)], .agg [.lit (.int .i64 2), .lit (.int .i64 (-1))], .agg [.lit (.int .i64 1), .lit (.int .i64 (-2))], .agg [.lit (.int .i64 (-1)), .lit (.int .i64 (-2))], .agg [.lit (.int .i64 (-2)), .lit (.int .i64 (-1))], .agg [.lit (.int .i64 (-2)), .lit (.int .i64 1)], .agg [.lit (.int .i64 (-1)), .lit (.int .i64 2)]]

/-- 'gameroomlaw.ChessAttacks': WHATEVER THE INPUT: true; the input reads as it did. -/
def chessAttacksSpec : ChangeSpec := { name := "chessAttacks", fn := fun _ => fun
  | [d1, d2, d3] => { results := [.lit (.bool true)], args := [d1, d2, d3] }
  | _ => none }
def chessAttacksRow : OpenClaim := { program := "ytdblmcihklcenaadoor", sum := "f62aea5a87909219d4fa9f8e7eb813f735616354d71545bd2ae92038938ecf14", func := "gameroom/gameroomlaw.ChessAttacks", spec := "chessAttacks", unfollowed := true, recurses := true, named := ["gameroom/chess.castlings", "gameroom/chess.steps", "gameroom/chess.worth"], apart := false, laid := [("gameroom/chess.castlings", laid_gameroom_chess_castlings), ("gameroom/chess.worth", laid_gameroom_chess_worth), ("gameroom/chess.steps", laid_gameroom_chess_steps)] }
def ChessAttacksSaid : Prop := chessAttacksRow.holds Tryd.pinned (OpenSpec.ofChange chessAttacksSpec)

/-- ITS FALSE NEIGHBOUR: 'it returns false'. Refute it at one input. -/
def chessAttacksWrong : ChangeSpec := { name := "chessAttacks", fn := fun _ => fun
  | [d1, d2, d3] => { results := [.lit (.bool false)], args := [d1, d2, d3] }
  | _ => none }
def ChessAttacksWrongFalsely : Prop := chessAttacksRow.holds Tryd.pinned (OpenSpec.ofChange chessAttacksWrong)

/- THE SECOND FORM. 'bulk': how many values and letters a reading holds, each counted each time it is reached (what is shared counts as often as it is met; a slice's spare places count too). A statement '..UptoSaid' is the law's where the arguments, and the package variables that the reading takes, are together of bulk at most 1048576: NARROWER than '..Said'. Prove '..Said' where nothing that the law and all that it calls make is longer than what came in: it says more and counts as full. Else prove '..UptoSaid'. A law counts once. -/
mutual
def uptoBulk {H : Type} : DataW H → Nat
  | .lit (.string bytes) => bytes.length + 1
  | .lit _ => 1
  | .nil => 1
  | .ptr d => uptoBulk d + 1
  | .slice elems spare => uptoBulkAll elems + uptoBulkAll spare + 1
  | .agg parts => uptoBulkAll parts + 1
  | .iface _ d => uptoBulk d + 1
  | .map entries => uptoBulkEntries entries + 1
  | .held _ => 1
def uptoBulkAll {H : Type} : List (DataW H) → Nat
  | [] => 0
  | d :: r => uptoBulk d + uptoBulkAll r
def uptoBulkEntries {H : Type} : List (Lit × DataW H) → Nat
  | [] => 0
  | x :: r => uptoBulkEntry x + uptoBulkEntries r
def uptoBulkEntry {H : Type} : Lit × DataW H → Nat
  | (.string bytes, d) => bytes.length + uptoBulk d + 1
  | (_, d) => uptoBulk d + 1
 end
def uptoSmall : (H : Type) → List (DataW H) → Bool := fun _ ds => decide (uptoBulkAll ds ≤ 1048576)
def OpenSpec.upto (s : _root_.Go.ChangeSpec) : _root_.Go.OpenSpec := { _root_.Go.OpenSpec.ofChange s with cond := some uptoSmall }

/-- 'gameroomlaw.ChessAttacks', WHERE WHAT IT READS IS OF BULK AT MOST 1048576: true; the input reads as it did. -/
def chessAttacksUptoRow : OpenClaim := { program := "ytdblmcihklcenaadoor", sum := "f62aea5a87909219d4fa9f8e7eb813f735616354d71545bd2ae92038938ecf14", func := "gameroom/gameroomlaw.ChessAttacks", spec := "chessAttacks", unfollowed := true, recurses := true, named := ["gameroom/chess.castlings", "gameroom/chess.steps", "gameroom/chess.worth"], apart := false, laid := [("gameroom/chess.castlings", laid_gameroom_chess_castlings), ("gameroom/chess.worth", laid_gameroom_chess_worth), ("gameroom/chess.steps", laid_gameroom_chess_steps)], narrowed := true }
def ChessAttacksUptoSaid : Prop := chessAttacksUptoRow.holds Tryd.pinned (OpenSpec.upto chessAttacksSpec)

end Rows
end Go.Proofs.YtdblmcihklcenaaDoor
