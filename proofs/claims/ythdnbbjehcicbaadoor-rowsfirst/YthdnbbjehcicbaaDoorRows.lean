/-
  NARROWER THAN 'FOR EVERY INPUT', by the rows' own cells (each row's printed sentence says how): RowsWins: laid · RowsSolves: laid · RowsTurned: laid · RowsFirst: laid.
  DERIVED. THE GIVEN ROWS OF THIS SEAT. 4 by the template 'for every input the law returns true; each argument reads behind the call as it read before'; 0 by the template 'total and deterministic' (their statements: YthdnbbjehcicbaaDoorTotals.lean).
  GIVEN WITH THE SEED: the statements are not yours to turn. If you find one false, say at which input.
  Laid BY PROGRAM, IN A SANDBOX (cutbox-rows.mjs): the forced cells as the released guide's own fill.sh prints them over the translation 180353f8f6f8b53d… (all of the seat's roots in one cut). By AI agents, Wed Nov 11 2026. No macro, syntax, notation, axiom, sorry.
-/
import Derived.Test.YthdnbbjehcicbaaDoorChecked
import GoSem.Claim
import GoSem.ClaimJoined
import GoSem.ClaimMapViews
import Derived.JoinedTies
import Derived.KernelRfl
namespace Go.Proofs.YthdnbbjehcicbaaDoor
/- THE CELL 'sum', in the pinned program and in every row, IS THE sha256 OF THE DUMP (.gsa) THAT YthdnbbjehcicbaaDoorProg.lean LOADS. Nothing in Lean hashes anything: it is a label: what it is worth is what the hold of that sum in a sandbox is worth. -/
noncomputable def Tryd.pinned : Pinned := { name := "ythdnbbjehcicbaadoor", sum := "180353f8f6f8b53d22e6a8cd6fcf2c47b63fb05ba41c1dc185bb1739f6c8240d", checked := Tryd.checked }
namespace Rows
def none {H : Type} : Left H := { results := [], args := [] }

/- WHAT THE LISTED PACKAGE-LEVEL VARIABLES READ AS WHEN THE CALL BEGINS. Each datum BY PROGRAM (the guide's laid-datum.mjs) off the statement by which the dump's own 'gosem.cut.vars' lays the variable. In a bare row this is a premise. The card (YthdnbbjehcicbaaDoorCards.lean) ties it to the program's text. -/
def laid_gameroom_grids_directions {H : Type} : DataW H := .agg [.agg [.lit (.int .i64 1), .lit (.int .i64 0)], .agg [.lit (.int .i64 0), .lit (.int .i64 1)], .agg [.lit (.int .i64 1), .lit (.int .i64 1)], .agg [.lit (.int .i64 (-1)), .lit (.int .i64 1)]]

/-- 'gameroomlaw.RowsWins': WHATEVER THE INPUT: true; the input reads as it did. -/
def rowsWinsSpec : ChangeSpec := { name := "rowsWins", fn := fun _ => fun
  | [d1, d2] => { results := [.lit (.bool true)], args := [d1, d2] }
  | _ => none }
def rowsWinsRow : OpenClaim := { program := "ythdnbbjehcicbaadoor", sum := "180353f8f6f8b53d22e6a8cd6fcf2c47b63fb05ba41c1dc185bb1739f6c8240d", func := "gameroom/gameroomlaw.RowsWins", spec := "rowsWins", unfollowed := true, recurses := true, named := ["gameroom/grids.directions"], plainKeys := false, apart := false, laid := [("gameroom/grids.directions", laid_gameroom_grids_directions)] }
def RowsWinsSaid : Prop := rowsWinsRow.holds Tryd.pinned (OpenSpec.ofChange rowsWinsSpec)

/-- ITS FALSE NEIGHBOUR: 'it returns false'. Refute it at one input. -/
def rowsWinsWrong : ChangeSpec := { name := "rowsWins", fn := fun _ => fun
  | [d1, d2] => { results := [.lit (.bool false)], args := [d1, d2] }
  | _ => none }
def RowsWinsWrongFalsely : Prop := rowsWinsRow.holds Tryd.pinned (OpenSpec.ofChange rowsWinsWrong)

/-- 'gameroomlaw.RowsSolves': WHATEVER THE INPUT: true; the input reads as it did. -/
def rowsSolvesSpec : ChangeSpec := { name := "rowsSolves", fn := fun _ => fun
  | [d1, d2] => { results := [.lit (.bool true)], args := [d1, d2] }
  | _ => none }
def rowsSolvesRow : OpenClaim := { program := "ythdnbbjehcicbaadoor", sum := "180353f8f6f8b53d22e6a8cd6fcf2c47b63fb05ba41c1dc185bb1739f6c8240d", func := "gameroom/gameroomlaw.RowsSolves", spec := "rowsSolves", unfollowed := true, recurses := true, named := ["gameroom/grids.directions"], plainKeys := false, apart := false, laid := [("gameroom/grids.directions", laid_gameroom_grids_directions)] }
def RowsSolvesSaid : Prop := rowsSolvesRow.holds Tryd.pinned (OpenSpec.ofChange rowsSolvesSpec)

/-- ITS FALSE NEIGHBOUR: 'it returns false'. Refute it at one input. -/
def rowsSolvesWrong : ChangeSpec := { name := "rowsSolves", fn := fun _ => fun
  | [d1, d2] => { results := [.lit (.bool false)], args := [d1, d2] }
  | _ => none }
def RowsSolvesWrongFalsely : Prop := rowsSolvesRow.holds Tryd.pinned (OpenSpec.ofChange rowsSolvesWrong)

/-- 'gameroomkeep.RowsTurned': WHATEVER THE INPUT: true; the input reads as it did. -/
def rowsTurnedSpec : ChangeSpec := { name := "rowsTurned", fn := fun _ => fun
  | [d1, d2, d3] => { results := [.lit (.bool true)], args := [d1, d2, d3] }
  | _ => none }
def rowsTurnedRow : OpenClaim := { program := "ythdnbbjehcicbaadoor", sum := "180353f8f6f8b53d22e6a8cd6fcf2c47b63fb05ba41c1dc185bb1739f6c8240d", func := "gameroom/gameroomkeep.RowsTurned", spec := "rowsTurned", inPlace := ["internal/abi.NoEscape", "internal/bytealg.IndexByteString", "internal/bytealg.IndexString"], unfollowed := true, recurses := true, named := ["gameroom/grids.directions", "internal/bytealg.MaxLen"], plainKeys := false, apart := false, laid := [("gameroom/grids.directions", laid_gameroom_grids_directions)] }
def RowsTurnedSaid : Prop := rowsTurnedRow.holds Tryd.pinned (OpenSpec.ofChange rowsTurnedSpec)

/-- ITS FALSE NEIGHBOUR: 'it returns false'. Refute it at one input. -/
def rowsTurnedWrong : ChangeSpec := { name := "rowsTurned", fn := fun _ => fun
  | [d1, d2, d3] => { results := [.lit (.bool false)], args := [d1, d2, d3] }
  | _ => none }
def RowsTurnedWrongFalsely : Prop := rowsTurnedRow.holds Tryd.pinned (OpenSpec.ofChange rowsTurnedWrong)

/-- 'gameroomkeep.RowsFirst': WHATEVER THE INPUT: true; the input reads as it did. -/
def rowsFirstSpec : ChangeSpec := { name := "rowsFirst", fn := fun _ => fun
  | [d1, d2, d3] => { results := [.lit (.bool true)], args := [d1, d2, d3] }
  | _ => none }
def rowsFirstRow : OpenClaim := { program := "ythdnbbjehcicbaadoor", sum := "180353f8f6f8b53d22e6a8cd6fcf2c47b63fb05ba41c1dc185bb1739f6c8240d", func := "gameroom/gameroomkeep.RowsFirst", spec := "rowsFirst", unfollowed := true, recurses := true, named := ["gameroom/grids.directions"], plainKeys := false, apart := false, laid := [("gameroom/grids.directions", laid_gameroom_grids_directions)] }
def RowsFirstSaid : Prop := rowsFirstRow.holds Tryd.pinned (OpenSpec.ofChange rowsFirstSpec)

/-- ITS FALSE NEIGHBOUR: 'it returns false'. Refute it at one input. -/
def rowsFirstWrong : ChangeSpec := { name := "rowsFirst", fn := fun _ => fun
  | [d1, d2, d3] => { results := [.lit (.bool false)], args := [d1, d2, d3] }
  | _ => none }
def RowsFirstWrongFalsely : Prop := rowsFirstRow.holds Tryd.pinned (OpenSpec.ofChange rowsFirstWrong)

/- THE SECOND FORM. 'bulk': how many values and letters a reading holds, each counted each time it is reached (what is shared counts as often as it is met; a slice's spare places count too). A statement '..UptoSaid' is the law's where the arguments, and the package variables that the reading takes, are together of bulk at most 1048576: NARROWER than '..Said'. Prove '..Said' where nothing that the law and all that it calls make is longer than what came in: it says more and counts as full. Else prove '..UptoSaid'. A law counts once. -/
mutual
def uptoBulk {H : Type} : DataW H → Nat
  | .lit (.string bytes) => bytes.length + 1
  | .lit _ => 1
  | .nil => 1
  | .ptr d => uptoBulk d + 1
  | .slice elems spare => uptoBulkAll elems + uptoBulkAll spare + 1
  | .agg parts => uptoBulkAll parts + 1
  | .iface _ d => uptoBulk d + 1
  | .map entries => uptoBulkEntries entries + 1
  | .held _ => 1
def uptoBulkAll {H : Type} : List (DataW H) → Nat
  | [] => 0
  | d :: r => uptoBulk d + uptoBulkAll r
def uptoBulkEntries {H : Type} : List (Lit × DataW H) → Nat
  | [] => 0
  | x :: r => uptoBulkEntry x + uptoBulkEntries r
def uptoBulkEntry {H : Type} : Lit × DataW H → Nat
  | (.string bytes, d) => bytes.length + uptoBulk d + 1
  | (_, d) => uptoBulk d + 1
 end
def uptoSmall : (H : Type) → List (DataW H) → Bool := fun _ ds => decide (uptoBulkAll ds ≤ 1048576)
def OpenSpec.upto (s : _root_.Go.ChangeSpec) : _root_.Go.OpenSpec := { _root_.Go.OpenSpec.ofChange s with cond := some uptoSmall }

/-- 'gameroomlaw.RowsWins', WHERE WHAT IT READS IS OF BULK AT MOST 1048576: true; the input reads as it did. -/
def rowsWinsUptoRow : OpenClaim := { program := "ythdnbbjehcicbaadoor", sum := "180353f8f6f8b53d22e6a8cd6fcf2c47b63fb05ba41c1dc185bb1739f6c8240d", func := "gameroom/gameroomlaw.RowsWins", spec := "rowsWins", unfollowed := true, recurses := true, named := ["gameroom/grids.directions"], plainKeys := false, apart := false, laid := [("gameroom/grids.directions", laid_gameroom_grids_directions)], narrowed := true }
def RowsWinsUptoSaid : Prop := rowsWinsUptoRow.holds Tryd.pinned (OpenSpec.upto rowsWinsSpec)

/-- 'gameroomlaw.RowsSolves', WHERE WHAT IT READS IS OF BULK AT MOST 1048576: true; the input reads as it did. -/
def rowsSolvesUptoRow : OpenClaim := { program := "ythdnbbjehcicbaadoor", sum := "180353f8f6f8b53d22e6a8cd6fcf2c47b63fb05ba41c1dc185bb1739f6c8240d", func := "gameroom/gameroomlaw.RowsSolves", spec := "rowsSolves", unfollowed := true, recurses := true, named := ["gameroom/grids.directions"], plainKeys := false, apart := false, laid := [("gameroom/grids.directions", laid_gameroom_grids_directions)], narrowed := true }
def RowsSolvesUptoSaid : Prop := rowsSolvesUptoRow.holds Tryd.pinned (OpenSpec.upto rowsSolvesSpec)

/-- 'gameroomkeep.RowsTurned', WHERE WHAT IT READS IS OF BULK AT MOST 1048576: true; the input reads as it did. -/
def rowsTurnedUptoRow : OpenClaim := { program := "ythdnbbjehcicbaadoor", sum := "180353f8f6f8b53d22e6a8cd6fcf2c47b63fb05ba41c1dc185bb1739f6c8240d", func := "gameroom/gameroomkeep.RowsTurned", spec := "rowsTurned", inPlace := ["internal/abi.NoEscape", "internal/bytealg.IndexByteString", "internal/bytealg.IndexString"], unfollowed := true, recurses := true, named := ["gameroom/grids.directions", "internal/bytealg.MaxLen"], plainKeys := false, apart := false, laid := [("gameroom/grids.directions", laid_gameroom_grids_directions)], narrowed := true }
def RowsTurnedUptoSaid : Prop := rowsTurnedUptoRow.holds Tryd.pinned (OpenSpec.upto rowsTurnedSpec)

/-- 'gameroomkeep.RowsFirst', WHERE WHAT IT READS IS OF BULK AT MOST 1048576: true; the input reads as it did. -/
def rowsFirstUptoRow : OpenClaim := { program := "ythdnbbjehcicbaadoor", sum := "180353f8f6f8b53d22e6a8cd6fcf2c47b63fb05ba41c1dc185bb1739f6c8240d", func := "gameroom/gameroomkeep.RowsFirst", spec := "rowsFirst", unfollowed := true, recurses := true, named := ["gameroom/grids.directions"], plainKeys := false, apart := false, laid := [("gameroom/grids.directions", laid_gameroom_grids_directions)], narrowed := true }
def RowsFirstUptoSaid : Prop := rowsFirstUptoRow.holds Tryd.pinned (OpenSpec.upto rowsFirstSpec)

end Rows
end Go.Proofs.YthdnbbjehcicbaaDoor
