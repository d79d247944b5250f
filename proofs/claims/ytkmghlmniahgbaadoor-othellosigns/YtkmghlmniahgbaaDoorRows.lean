/-
  NARROWER THAN 'FOR EVERY INPUT', by the rows' own cells (each row's printed sentence says how): OthelloPuts: laid · OthelloCounts: laid · OthelloBests: laid · OthelloSigns: laid · OthelloDeep: laid.
  DERIVED. THE GIVEN ROWS OF THIS SEAT. 5 by the template 'for every input the law returns true; each argument reads behind the call as it read before'; 0 by the template 'total and deterministic' (their statements: YtkmghlmniahgbaaDoorTotals.lean).
  GIVEN WITH THE SEED: the statements are not yours to turn. If you find one false, say at which input.
  Laid BY PROGRAM, IN A SANDBOX (cutbox-rows.mjs): the forced cells as the released guide's own fill.sh prints them over the translation 557387e9c05a5c59… (all of the seat's roots in one cut). By AI agents, Wed Nov 11 2026. No macro, syntax, notation, axiom, sorry.
-/
import Derived.Test.YtkmghlmniahgbaaDoorChecked
import GoSem.Claim
import GoSem.ClaimJoined
import GoSem.ClaimMapViews
import Derived.JoinedTies
import Derived.KernelRfl
namespace Go.Proofs.YtkmghlmniahgbaaDoor
/- THE CELL 'sum', in the pinned program and in every row, IS THE sha256 OF THE DUMP (.gsa) THAT YtkmghlmniahgbaaDoorProg.lean LOADS. Nothing in Lean hashes anything: it is a label: what it is worth is what the hold of that sum in a sandbox is worth. -/
noncomputable def Tryd.pinned : Pinned := { name := "ytkmghlmniahgbaadoor", sum := "557387e9c05a5c590a83fddb48352e2df96c02a729bdcf194c9186b371f1f280", checked := Tryd.checked }
namespace Rows
def none {H : Type} : Left H := { results := [], args := [] }

/- WHAT THE LISTED PACKAGE-LEVEL VARIABLES READ AS WHEN THE CALL BEGINS. Each datum BY PROGRAM (the guide's laid-datum.mjs) off the statement by which the dump's own 'gosem.cut.vars' lays the variable. In a bare row this is a premise. The card (YtkmghlmniahgbaaDoorCards.lean) ties it to the program's text. -/
def laid_math_bits_deBruijn64tab {H : Type} : DataW H := .agg [.lit (.int .u8 0), .lit (.int .u8 1), .lit (.int .u8 56), .lit (.int .u8 2), .lit (.int .u8 57), .lit (.int .u8 49), .lit (.int .u8 28), .lit (.int .u8 3), .lit (.int .u8 61), .lit (.int .u8 58), .lit (.int .u8 42), .lit (.int .u8 50), .lit (.int .u8 38), .lit (.int .u8 29), .lit (.int .u8 17), .lit (.int .u8 4), .lit (.int .u8 62), .lit (.int .u8 47), .lit (.int .u8 59), .lit (.int .u8 36), .lit (.int .u8 45), .lit (.int .u8 43), .lit (.int .u8 51), .lit (.int .u8 22), .lit (.int .u8 53), .lit (.int .u8 39), .lit (.int .u8 33), .lit (.int .u8 30), .lit (.int .u8 24), .lit (.int .u8 18), .lit (.int .u8 12), .lit (.int .u8 5), .lit (.int .u8 63), .lit (.int .u8 55), .lit (.int .u8 48), .lit (.int .u8 27), .lit (.int .u8 60), .lit (.int .u8 41), .lit (.int .u8 37), .lit (.int .u8 16), .lit (.int .u8 46), .lit (.int .u8 35), .lit (.int .u8 44), .lit (.int .u8 21), .lit (.int .u8 52), .lit (.int .u8 32), .lit (.int .u8 23), .lit (.int .u8 11), .lit (.int .u8 54), .lit (.int .u8 26), .lit (.int .u8 40), .lit (.int .u8 15), .lit (.int .u8 34), .lit (.int .u8 20), .lit (.int .u8 31), .lit (.int .u8 10), .lit (.int .u8 25), .lit (.int .u8 14), .lit (.int .u8 19), .lit (.int .u8 9), .lit (.int .u8 13), .lit (.int .u8 8), .lit (.int .u8 7), .lit (.int .u8 6)]
def laid_gameroom_othello_directions {H : Type} : DataW H := .agg [.agg [.lit (.int .i64 1), .lit (.int .u64 18374403900871474942)], .agg [.lit (.int .i64 (-1)), .lit (.int .u64 9187201950435737471)], .agg [.lit (.int .i64 8), .lit (.int .u64 18446744073709551360)], .agg [.lit (.int .i64 (-8)), .lit (.int .u64 72057594037927935)], .agg [.lit (.int .i64 9), .lit (.int .u64 18374403900871474688)], .agg [.lit (.int .i64 7), .lit (.int .u64 9187201950435737344)], .agg [.lit (.int .i64 (-7)), .lit (.int .u64 71775015237779198)], .agg [.lit (.int .i64 (-9)), .lit (.int .u64 35887507618889599)]]

/-- 'gameroomlaw.OthelloPuts': WHATEVER THE INPUT: true; the input reads as it did. -/
def othelloPutsSpec : ChangeSpec := { name := "othelloPuts", fn := fun _ => fun
  | [d1, d2, d3, d4, d5] => { results := [.lit (.bool true)], args := [d1, d2, d3, d4, d5] }
  | _ => none }
def othelloPutsRow : OpenClaim := { program := "ytkmghlmniahgbaadoor", sum := "557387e9c05a5c590a83fddb48352e2df96c02a729bdcf194c9186b371f1f280", func := "gameroom/gameroomlaw.OthelloPuts", spec := "othelloPuts", unfollowed := true, recurses := true, named := ["gameroom/othello.directions", "math/bits.deBruijn64tab"], apart := false, laid := [("math/bits.deBruijn64tab", laid_math_bits_deBruijn64tab), ("gameroom/othello.directions", laid_gameroom_othello_directions)] }
def OthelloPutsSaid : Prop := othelloPutsRow.holds Tryd.pinned (OpenSpec.ofChange othelloPutsSpec)

/-- ITS FALSE NEIGHBOUR: 'it returns false'. Refute it at one input. -/
def othelloPutsWrong : ChangeSpec := { name := "othelloPuts", fn := fun _ => fun
  | [d1, d2, d3, d4, d5] => { results := [.lit (.bool false)], args := [d1, d2, d3, d4, d5] }
  | _ => none }
def OthelloPutsWrongFalsely : Prop := othelloPutsRow.holds Tryd.pinned (OpenSpec.ofChange othelloPutsWrong)

/-- 'gameroomlaw.OthelloCounts': WHATEVER THE INPUT: true; the input reads as it did. -/
def othelloCountsSpec : ChangeSpec := { name := "othelloCounts", fn := fun _ => fun
  | [d1, d2, d3] => { results := [.lit (.bool true)], args := [d1, d2, d3] }
  | _ => none }
def othelloCountsRow : OpenClaim := { program := "ytkmghlmniahgbaadoor", sum := "557387e9c05a5c590a83fddb48352e2df96c02a729bdcf194c9186b371f1f280", func := "gameroom/gameroomlaw.OthelloCounts", spec := "othelloCounts", unfollowed := true, recurses := true, named := ["gameroom/othello.directions"], apart := false, laid := [("gameroom/othello.directions", laid_gameroom_othello_directions)] }
def OthelloCountsSaid : Prop := othelloCountsRow.holds Tryd.pinned (OpenSpec.ofChange othelloCountsSpec)

/-- ITS FALSE NEIGHBOUR: 'it returns false'. Refute it at one input. -/
def othelloCountsWrong : ChangeSpec := { name := "othelloCounts", fn := fun _ => fun
  | [d1, d2, d3] => { results := [.lit (.bool false)], args := [d1, d2, d3] }
  | _ => none }
def OthelloCountsWrongFalsely : Prop := othelloCountsRow.holds Tryd.pinned (OpenSpec.ofChange othelloCountsWrong)

/-- 'gameroomlaw.OthelloBests': WHATEVER THE INPUT: true; the input reads as it did. -/
def othelloBestsSpec : ChangeSpec := { name := "othelloBests", fn := fun _ => fun
  | [d1, d2, d3] => { results := [.lit (.bool true)], args := [d1, d2, d3] }
  | _ => none }
def othelloBestsRow : OpenClaim := { program := "ytkmghlmniahgbaadoor", sum := "557387e9c05a5c590a83fddb48352e2df96c02a729bdcf194c9186b371f1f280", func := "gameroom/gameroomlaw.OthelloBests", spec := "othelloBests", unfollowed := true, recurses := true, named := ["gameroom/othello.directions", "math/bits.deBruijn64tab"], apart := false, laid := [("math/bits.deBruijn64tab", laid_math_bits_deBruijn64tab), ("gameroom/othello.directions", laid_gameroom_othello_directions)] }
def OthelloBestsSaid : Prop := othelloBestsRow.holds Tryd.pinned (OpenSpec.ofChange othelloBestsSpec)

/-- ITS FALSE NEIGHBOUR: 'it returns false'. Refute it at one input. -/
def othelloBestsWrong : ChangeSpec := { name := "othelloBests", fn := fun _ => fun
  | [d1, d2, d3] => { results := [.lit (.bool false)], args := [d1, d2, d3] }
  | _ => none }
def OthelloBestsWrongFalsely : Prop := othelloBestsRow.holds Tryd.pinned (OpenSpec.ofChange othelloBestsWrong)

/-- 'gameroomkeep.OthelloSigns': WHATEVER THE INPUT: true; the input reads as it did. -/
def othelloSignsSpec : ChangeSpec := { name := "othelloSigns", fn := fun _ => fun
  | [d1, d2, d3] => { results := [.lit (.bool true)], args := [d1, d2, d3] }
  | _ => none }
def othelloSignsRow : OpenClaim := { program := "ytkmghlmniahgbaadoor", sum := "557387e9c05a5c590a83fddb48352e2df96c02a729bdcf194c9186b371f1f280", func := "gameroom/gameroomkeep.OthelloSigns", spec := "othelloSigns", unfollowed := true, recurses := true, named := ["gameroom/othello.directions", "math/bits.deBruijn64tab"], apart := false, laid := [("math/bits.deBruijn64tab", laid_math_bits_deBruijn64tab), ("gameroom/othello.directions", laid_gameroom_othello_directions)] }
def OthelloSignsSaid : Prop := othelloSignsRow.holds Tryd.pinned (OpenSpec.ofChange othelloSignsSpec)

/-- ITS FALSE NEIGHBOUR: 'it returns false'. Refute it at one input. -/
def othelloSignsWrong : ChangeSpec := { name := "othelloSigns", fn := fun _ => fun
  | [d1, d2, d3] => { results := [.lit (.bool false)], args := [d1, d2, d3] }
  | _ => none }
def OthelloSignsWrongFalsely : Prop := othelloSignsRow.holds Tryd.pinned (OpenSpec.ofChange othelloSignsWrong)

/-- 'gameroomkeep.OthelloDeep': WHATEVER THE INPUT: true; the input reads as it did. -/
def othelloDeepSpec : ChangeSpec := { name := "othelloDeep", fn := fun _ => fun
  | [d1, d2, d3] => { results := [.lit (.bool true)], args := [d1, d2, d3] }
  | _ => none }
def othelloDeepRow : OpenClaim := { program := "ytkmghlmniahgbaadoor", sum := "557387e9c05a5c590a83fddb48352e2df96c02a729bdcf194c9186b371f1f280", func := "gameroom/gameroomkeep.OthelloDeep", spec := "othelloDeep", unfollowed := true, recurses := true, named := ["gameroom/othello.directions", "math/bits.deBruijn64tab"], apart := false, laid := [("math/bits.deBruijn64tab", laid_math_bits_deBruijn64tab), ("gameroom/othello.directions", laid_gameroom_othello_directions)] }
def OthelloDeepSaid : Prop := othelloDeepRow.holds Tryd.pinned (OpenSpec.ofChange othelloDeepSpec)

/-- ITS FALSE NEIGHBOUR: 'it returns false'. Refute it at one input. -/
def othelloDeepWrong : ChangeSpec := { name := "othelloDeep", fn := fun _ => fun
  | [d1, d2, d3] => { results := [.lit (.bool false)], args := [d1, d2, d3] }
  | _ => none }
def OthelloDeepWrongFalsely : Prop := othelloDeepRow.holds Tryd.pinned (OpenSpec.ofChange othelloDeepWrong)

/- THE SECOND FORM. 'bulk': how many values and letters a reading holds, each counted each time it is reached (what is shared counts as often as it is met; a slice's spare places count too). A statement '..UptoSaid' is the law's where the arguments, and the package variables that the reading takes, are together of bulk at most 1048576: NARROWER than '..Said'. Prove '..Said' where nothing that the law and all that it calls make is longer than what came in: it says more and counts as full. Else prove '..UptoSaid'. A law counts once. -/
mutual
def uptoBulk {H : Type} : DataW H → Nat
  | .lit (.string bytes) => bytes.length + 1
  | .lit _ => 1
  | .nil => 1
  | .ptr d => uptoBulk d + 1
  | .slice elems spare => uptoBulkAll elems + uptoBulkAll spare + 1
  | .agg parts => uptoBulkAll parts + 1
  | .iface _ d => uptoBulk d + 1
  | .map entries => uptoBulkEntries entries + 1
  | .held _ => 1
def uptoBulkAll {H : Type} : List (DataW H) → Nat
  | [] => 0
  | d :: r => uptoBulk d + uptoBulkAll r
def uptoBulkEntries {H : Type} : List (Lit × DataW H) → Nat
  | [] => 0
  | x :: r => uptoBulkEntry x + uptoBulkEntries r
def uptoBulkEntry {H : Type} : Lit × DataW H → Nat
  | (.string bytes, d) => bytes.length + uptoBulk d + 1
  | (_, d) => uptoBulk d + 1
 end
def uptoSmall : (H : Type) → List (DataW H) → Bool := fun _ ds => decide (uptoBulkAll ds ≤ 1048576)
def OpenSpec.upto (s : _root_.Go.ChangeSpec) : _root_.Go.OpenSpec := { _root_.Go.OpenSpec.ofChange s with cond := some uptoSmall }

/-- 'gameroomlaw.OthelloPuts', WHERE WHAT IT READS IS OF BULK AT MOST 1048576: true; the input reads as it did. -/
def othelloPutsUptoRow : OpenClaim := { program := "ytkmghlmniahgbaadoor", sum := "557387e9c05a5c590a83fddb48352e2df96c02a729bdcf194c9186b371f1f280", func := "gameroom/gameroomlaw.OthelloPuts", spec := "othelloPuts", unfollowed := true, recurses := true, named := ["gameroom/othello.directions", "math/bits.deBruijn64tab"], apart := false, laid := [("math/bits.deBruijn64tab", laid_math_bits_deBruijn64tab), ("gameroom/othello.directions", laid_gameroom_othello_directions)], narrowed := true }
def OthelloPutsUptoSaid : Prop := othelloPutsUptoRow.holds Tryd.pinned (OpenSpec.upto othelloPutsSpec)

/-- 'gameroomlaw.OthelloCounts', WHERE WHAT IT READS IS OF BULK AT MOST 1048576: true; the input reads as it did. -/
def othelloCountsUptoRow : OpenClaim := { program := "ytkmghlmniahgbaadoor", sum := "557387e9c05a5c590a83fddb48352e2df96c02a729bdcf194c9186b371f1f280", func := "gameroom/gameroomlaw.OthelloCounts", spec := "othelloCounts", unfollowed := true, recurses := true, named := ["gameroom/othello.directions"], apart := false, laid := [("gameroom/othello.directions", laid_gameroom_othello_directions)], narrowed := true }
def OthelloCountsUptoSaid : Prop := othelloCountsUptoRow.holds Tryd.pinned (OpenSpec.upto othelloCountsSpec)

/-- 'gameroomlaw.OthelloBests', WHERE WHAT IT READS IS OF BULK AT MOST 1048576: true; the input reads as it did. -/
def othelloBestsUptoRow : OpenClaim := { program := "ytkmghlmniahgbaadoor", sum := "557387e9c05a5c590a83fddb48352e2df96c02a729bdcf194c9186b371f1f280", func := "gameroom/gameroomlaw.OthelloBests", spec := "othelloBests", unfollowed := true, recurses := true, named := ["gameroom/othello.directions", "math/bits.deBruijn64tab"], apart := false, laid := [("math/bits.deBruijn64tab", laid_math_bits_deBruijn64tab), ("gameroom/othello.directions", laid_gameroom_othello_directions)], narrowed := true }
def OthelloBestsUptoSaid : Prop := othelloBestsUptoRow.holds Tryd.pinned (OpenSpec.upto othelloBestsSpec)

/-- 'gameroomkeep.OthelloSigns', WHERE WHAT IT READS IS OF BULK AT MOST 1048576: true; the input reads as it did. -/
def othelloSignsUptoRow : OpenClaim := { program := "ytkmghlmniahgbaadoor", sum := "557387e9c05a5c590a83fddb48352e2df96c02a729bdcf194c9186b371f1f280", func := "gameroom/gameroomkeep.OthelloSigns", spec := "othelloSigns", unfollowed := true, recurses := true, named := ["gameroom/othello.directions", "math/bits.deBruijn64tab"], apart := false, laid := [("math/bits.deBruijn64tab", laid_math_bits_deBruijn64tab), ("gameroom/othello.directions", laid_gameroom_othello_directions)], narrowed := true }
def OthelloSignsUptoSaid : Prop := othelloSignsUptoRow.holds Tryd.pinned (OpenSpec.upto othelloSignsSpec)

/-- 'gameroomkeep.OthelloDeep', WHERE WHAT IT READS IS OF BULK AT MOST 1048576: true; the input reads as it did. -/
def othelloDeepUptoRow : OpenClaim := { program := "ytkmghlmniahgbaadoor", sum := "557387e9c05a5c590a83fddb48352e2df96c02a729bdcf194c9186b371f1f280", func := "gameroom/gameroomkeep.OthelloDeep", spec := "othelloDeep", unfollowed := true, recurses := true, named := ["gameroom/othello.directions", "math/bits.deBruijn64tab"], apart := false, laid := [("math/bits.deBruijn64tab", laid_math_bits_deBruijn64tab), ("gameroom/othello.directions", laid_gameroom_othello_directions)], narrowed := true }
def OthelloDeepUptoSaid : Prop := othelloDeepUptoRow.holds Tryd.pinned (OpenSpec.upto othelloDeepSpec)

end Rows
end Go.Proofs.YtkmghlmniahgbaaDoor
