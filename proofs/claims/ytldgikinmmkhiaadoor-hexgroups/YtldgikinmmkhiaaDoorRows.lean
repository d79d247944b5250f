/-
  NARROWER THAN 'FOR EVERY INPUT', by the rows' own cells (each row's printed sentence says how): HexGroups: laid · HexSolves: laid · HexOne: laid · HexMore: laid · HexShort: laid.
  DERIVED. THE GIVEN ROWS OF THIS SEAT. 5 by the template 'for every input the law returns true; each argument reads behind the call as it read before'; 0 by the template 'total and deterministic' (their statements: YtldgikinmmkhiaaDoorTotals.lean).
  GIVEN WITH THE SEED: the statements are not yours to turn. If you find one false, say at which input.
  Laid BY PROGRAM, IN A SANDBOX (cutbox-rows.mjs): the forced cells as the released guide's own fill.sh prints them over the translation 5fca2ffb7fb64c96… (all of the seat's roots in one cut). By AI agents, Wed Nov 11 2026. No macro, syntax, notation, axiom, sorry.
-/
import Derived.Test.YtldgikinmmkhiaaDoorChecked
import GoSem.Claim
import GoSem.ClaimJoined
import GoSem.ClaimMapViews
import Derived.JoinedTies
import Derived.KernelRfl
namespace Go.Proofs.YtldgikinmmkhiaaDoor
/- THE CELL 'sum', in the pinned program and in every row, IS THE sha256 OF THE DUMP (.gsa) THAT YtldgikinmmkhiaaDoorProg.lean LOADS. Nothing in Lean hashes anything: it is a label: what it is worth is what the hold of that sum in a sandbox is worth. -/
noncomputable def Tryd.pinned : Pinned := { name := "ytldgikinmmkhiaadoor", sum := "5fca2ffb7fb64c96016b1fb82accdea32832a77c348e0602fa40fdc17da7af8d", checked := Tryd.checked }
namespace Rows
def none {H : Type} : Left H := { results := [], args := [] }

/- WHAT THE LISTED PACKAGE-LEVEL VARIABLES READ AS WHEN THE CALL BEGINS. Each datum BY PROGRAM (the guide's laid-datum.mjs) off the statement by which the dump's own 'gosem.cut.vars' lays the variable. In a bare row this is a premise. The card (YtldgikinmmkhiaaDoorCards.lean) ties it to the program's text. -/
def laid_gameroom_hex_directions {H : Type} : DataW H := .agg [.agg [.lit (.int .i64 0), .lit (.int .i64 (-1))], .agg [.lit (.int .i64 1), .lit (.int .i64 (-1))], .agg [.lit (.int .i64 (-1)), .lit (.int .i64 0)], .agg [.lit (.int .i64 1), .lit (.int .i64 0)], .agg [.lit (.int .i64 (-1)), .lit (.int .i64 1)], .agg [.lit (.int .i64 0), .lit (.int .i64 1)]]

/-- 'gameroomlaw.HexGroups': WHATEVER THE INPUT: true; the input reads as it did. -/
def hexGroupsSpec : ChangeSpec := { name := "hexGroups", fn := fun _ => fun
  | [d1, d2] => { results := [.lit (.bool true)], args := [d1, d2] }
  | _ => none }
def hexGroupsRow : OpenClaim := { program := "ytldgikinmmkhiaadoor", sum := "5fca2ffb7fb64c96016b1fb82accdea32832a77c348e0602fa40fdc17da7af8d", func := "gameroom/gameroomlaw.HexGroups", spec := "hexGroups", unfollowed := true, recurses := true, named := ["gameroom/hex.directions"], plainKeys := false, apart := false, laid := [("gameroom/hex.directions", laid_gameroom_hex_directions)] }
def HexGroupsSaid : Prop := hexGroupsRow.holds Tryd.pinned (OpenSpec.ofChange hexGroupsSpec)

/-- ITS FALSE NEIGHBOUR: 'it returns false'. Refute it at one input. -/
def hexGroupsWrong : ChangeSpec := { name := "hexGroups", fn := fun _ => fun
  | [d1, d2] => { results := [.lit (.bool false)], args := [d1, d2] }
  | _ => none }
def HexGroupsWrongFalsely : Prop := hexGroupsRow.holds Tryd.pinned (OpenSpec.ofChange hexGroupsWrong)

/-- 'gameroomlaw.HexSolves': WHATEVER THE INPUT: true; the input reads as it did. -/
def hexSolvesSpec : ChangeSpec := { name := "hexSolves", fn := fun _ => fun
  | [d1, d2] => { results := [.lit (.bool true)], args := [d1, d2] }
  | _ => none }
def hexSolvesRow : OpenClaim := { program := "ytldgikinmmkhiaadoor", sum := "5fca2ffb7fb64c96016b1fb82accdea32832a77c348e0602fa40fdc17da7af8d", func := "gameroom/gameroomlaw.HexSolves", spec := "hexSolves", unfollowed := true, recurses := true, named := ["gameroom/hex.directions"], plainKeys := false, apart := false, laid := [("gameroom/hex.directions", laid_gameroom_hex_directions)] }
def HexSolvesSaid : Prop := hexSolvesRow.holds Tryd.pinned (OpenSpec.ofChange hexSolvesSpec)

/-- ITS FALSE NEIGHBOUR: 'it returns false'. Refute it at one input. -/
def hexSolvesWrong : ChangeSpec := { name := "hexSolves", fn := fun _ => fun
  | [d1, d2] => { results := [.lit (.bool false)], args := [d1, d2] }
  | _ => none }
def HexSolvesWrongFalsely : Prop := hexSolvesRow.holds Tryd.pinned (OpenSpec.ofChange hexSolvesWrong)

/-- 'gameroomkeep.HexOne': WHATEVER THE INPUT: true; the input reads as it did. -/
def hexOneSpec : ChangeSpec := { name := "hexOne", fn := fun _ => fun
  | [d1, d2] => { results := [.lit (.bool true)], args := [d1, d2] }
  | _ => none }
def hexOneRow : OpenClaim := { program := "ytldgikinmmkhiaadoor", sum := "5fca2ffb7fb64c96016b1fb82accdea32832a77c348e0602fa40fdc17da7af8d", func := "gameroom/gameroomkeep.HexOne", spec := "hexOne", unfollowed := true, recurses := true, named := ["gameroom/hex.directions"], plainKeys := false, apart := false, laid := [("gameroom/hex.directions", laid_gameroom_hex_directions)] }
def HexOneSaid : Prop := hexOneRow.holds Tryd.pinned (OpenSpec.ofChange hexOneSpec)

/-- ITS FALSE NEIGHBOUR: 'it returns false'. Refute it at one input. -/
def hexOneWrong : ChangeSpec := { name := "hexOne", fn := fun _ => fun
  | [d1, d2] => { results := [.lit (.bool false)], args := [d1, d2] }
  | _ => none }
def HexOneWrongFalsely : Prop := hexOneRow.holds Tryd.pinned (OpenSpec.ofChange hexOneWrong)

/-- 'gameroomkeep.HexMore': WHATEVER THE INPUT: true; the input reads as it did. -/
def hexMoreSpec : ChangeSpec := { name := "hexMore", fn := fun _ => fun
  | [d1, d2, d3] => { results := [.lit (.bool true)], args := [d1, d2, d3] }
  | _ => none }
def hexMoreRow : OpenClaim := { program := "ytldgikinmmkhiaadoor", sum := "5fca2ffb7fb64c96016b1fb82accdea32832a77c348e0602fa40fdc17da7af8d", func := "gameroom/gameroomkeep.HexMore", spec := "hexMore", unfollowed := true, recurses := true, named := ["gameroom/hex.directions"], plainKeys := false, apart := false, laid := [("gameroom/hex.directions", laid_gameroom_hex_directions)] }
def HexMoreSaid : Prop := hexMoreRow.holds Tryd.pinned (OpenSpec.ofChange hexMoreSpec)

/-- ITS FALSE NEIGHBOUR: 'it returns false'. Refute it at one input. -/
def hexMoreWrong : ChangeSpec := { name := "hexMore", fn := fun _ => fun
  | [d1, d2, d3] => { results := [.lit (.bool false)], args := [d1, d2, d3] }
  | _ => none }
def HexMoreWrongFalsely : Prop := hexMoreRow.holds Tryd.pinned (OpenSpec.ofChange hexMoreWrong)

/-- 'gameroomkeep.HexShort': WHATEVER THE INPUT: true; the input reads as it did. -/
def hexShortSpec : ChangeSpec := { name := "hexShort", fn := fun _ => fun
  | [d1, d2, d3] => { results := [.lit (.bool true)], args := [d1, d2, d3] }
  | _ => none }
def hexShortRow : OpenClaim := { program := "ytldgikinmmkhiaadoor", sum := "5fca2ffb7fb64c96016b1fb82accdea32832a77c348e0602fa40fdc17da7af8d", func := "gameroom/gameroomkeep.HexShort", spec := "hexShort", unfollowed := true, recurses := true, named := ["gameroom/hex.directions"], plainKeys := false, apart := false, laid := [("gameroom/hex.directions", laid_gameroom_hex_directions)] }
def HexShortSaid : Prop := hexShortRow.holds Tryd.pinned (OpenSpec.ofChange hexShortSpec)

/-- ITS FALSE NEIGHBOUR: 'it returns false'. Refute it at one input. -/
def hexShortWrong : ChangeSpec := { name := "hexShort", fn := fun _ => fun
  | [d1, d2, d3] => { results := [.lit (.bool false)], args := [d1, d2, d3] }
  | _ => none }
def HexShortWrongFalsely : Prop := hexShortRow.holds Tryd.pinned (OpenSpec.ofChange hexShortWrong)

/- THE SECOND FORM. 'bulk': how many values and letters a reading holds, each counted each time it is reached (what is shared counts as often as it is met; a slice's spare places count too). A statement '..UptoSaid' is the law's where the arguments, and the package variables that the reading takes, are together of bulk at most 1048576: NARROWER than '..Said'. Prove '..Said' where nothing that the law and all that it calls make is longer than what came in: it says more and counts as full. Else prove '..UptoSaid'. A law counts once. -/
mutual
def uptoBulk {H : Type} : DataW H → Nat
  | .lit (.string bytes) => bytes.length + 1
  | .lit _ => 1
  | .nil => 1
  | .ptr d => uptoBulk d + 1
  | .slice elems spare => uptoBulkAll elems + uptoBulkAll spare + 1
  | .agg parts => uptoBulkAll parts + 1
  | .iface _ d => uptoBulk d + 1
  | .map entries => uptoBulkEntries entries + 1
  | .held _ => 1
def uptoBulkAll {H : Type} : List (DataW H) → Nat
  | [] => 0
  | d :: r => uptoBulk d + uptoBulkAll r
def uptoBulkEntries {H : Type} : List (Lit × DataW H) → Nat
  | [] => 0
  | x :: r => uptoBulkEntry x + uptoBulkEntries r
def uptoBulkEntry {H : Type} : Lit × DataW H → Nat
  | (.string bytes, d) => bytes.length + uptoBulk d + 1
  | (_, d) => uptoBulk d + 1
 end
def uptoSmall : (H : Type) → List (DataW H) → Bool := fun _ ds => decide (uptoBulkAll ds ≤ 1048576)
def OpenSpec.upto (s : _root_.Go.ChangeSpec) : _root_.Go.OpenSpec := { _root_.Go.OpenSpec.ofChange s with cond := some uptoSmall }

/-- 'gameroomlaw.HexGroups', WHERE WHAT IT READS IS OF BULK AT MOST 1048576: true; the input reads as it did. -/
def hexGroupsUptoRow : OpenClaim := { program := "ytldgikinmmkhiaadoor", sum := "5fca2ffb7fb64c96016b1fb82accdea32832a77c348e0602fa40fdc17da7af8d", func := "gameroom/gameroomlaw.HexGroups", spec := "hexGroups", unfollowed := true, recurses := true, named := ["gameroom/hex.directions"], plainKeys := false, apart := false, laid := [("gameroom/hex.directions", laid_gameroom_hex_directions)], narrowed := true }
def HexGroupsUptoSaid : Prop := hexGroupsUptoRow.holds Tryd.pinned (OpenSpec.upto hexGroupsSpec)

/-- 'gameroomlaw.HexSolves', WHERE WHAT IT READS IS OF BULK AT MOST 1048576: true; the input reads as it did. -/
def hexSolvesUptoRow : OpenClaim := { program := "ytldgikinmmkhiaadoor", sum := "5fca2ffb7fb64c96016b1fb82accdea32832a77c348e0602fa40fdc17da7af8d", func := "gameroom/gameroomlaw.HexSolves", spec := "hexSolves", unfollowed := true, recurses := true, named := ["gameroom/hex.directions"], plainKeys := false, apart := false, laid := [("gameroom/hex.directions", laid_gameroom_hex_directions)], narrowed := true }
def HexSolvesUptoSaid : Prop := hexSolvesUptoRow.holds Tryd.pinned (OpenSpec.upto hexSolvesSpec)

/-- 'gameroomkeep.HexOne', WHERE WHAT IT READS IS OF BULK AT MOST 1048576: true; the input reads as it did. -/
def hexOneUptoRow : OpenClaim := { program := "ytldgikinmmkhiaadoor", sum := "5fca2ffb7fb64c96016b1fb82accdea32832a77c348e0602fa40fdc17da7af8d", func := "gameroom/gameroomkeep.HexOne", spec := "hexOne", unfollowed := true, recurses := true, named := ["gameroom/hex.directions"], plainKeys := false, apart := false, laid := [("gameroom/hex.directions", laid_gameroom_hex_directions)], narrowed := true }
def HexOneUptoSaid : Prop := hexOneUptoRow.holds Tryd.pinned (OpenSpec.upto hexOneSpec)

/-- 'gameroomkeep.HexMore', WHERE WHAT IT READS IS OF BULK AT MOST 1048576: true; the input reads as it did. -/
def hexMoreUptoRow : OpenClaim := { program := "ytldgikinmmkhiaadoor", sum := "5fca2ffb7fb64c96016b1fb82accdea32832a77c348e0602fa40fdc17da7af8d", func := "gameroom/gameroomkeep.HexMore", spec := "hexMore", unfollowed := true, recurses := true, named := ["gameroom/hex.directions"], plainKeys := false, apart := false, laid := [("gameroom/hex.directions", laid_gameroom_hex_directions)], narrowed := true }
def HexMoreUptoSaid : Prop := hexMoreUptoRow.holds Tryd.pinned (OpenSpec.upto hexMoreSpec)

/-- 'gameroomkeep.HexShort', WHERE WHAT IT READS IS OF BULK AT MOST 1048576: true; the input reads as it did. -/
def hexShortUptoRow : OpenClaim := { program := "ytldgikinmmkhiaadoor", sum := "5fca2ffb7fb64c96016b1fb82accdea32832a77c348e0602fa40fdc17da7af8d", func := "gameroom/gameroomkeep.HexShort", spec := "hexShort", unfollowed := true, recurses := true, named := ["gameroom/hex.directions"], plainKeys := false, apart := false, laid := [("gameroom/hex.directions", laid_gameroom_hex_directions)], narrowed := true }
def HexShortUptoSaid : Prop := hexShortUptoRow.holds Tryd.pinned (OpenSpec.upto hexShortSpec)

end Rows
end Go.Proofs.YtldgikinmmkhiaaDoor
