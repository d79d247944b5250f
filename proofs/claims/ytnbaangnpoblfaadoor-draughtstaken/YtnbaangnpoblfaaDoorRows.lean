/-
  NARROWER THAN 'FOR EVERY INPUT', by the rows' own cells (each row's printed sentence says how): DraughtsWays: laid · DraughtsDoes: laid · DraughtsTexts: laid · DraughtsTurned: laid · DraughtsTaken: laid.
  DERIVED. THE GIVEN ROWS OF THIS SEAT. 5 by the template 'for every input the law returns true; each argument reads behind the call as it read before'; 0 by the template 'total and deterministic' (their statements: YtnbaangnpoblfaaDoorTotals.lean).
  GIVEN WITH THE SEED: the statements are not yours to turn. If you find one false, say at which input.
  Laid BY PROGRAM, IN A SANDBOX (cutbox-rows.mjs): the forced cells as the released guide's own fill.sh prints them over the translation 435bef0feb2ba75c… (all of the seat's roots in one cut). By AI agents, Wed Nov 11 2026. No macro, syntax, notation, axiom, sorry.
-/
import Derived.Test.YtnbaangnpoblfaaDoorChecked
import GoSem.Claim
import GoSem.ClaimJoined
import GoSem.ClaimMapViews
import Derived.JoinedTies
import Derived.KernelRfl
namespace Go.Proofs.YtnbaangnpoblfaaDoor
/- THE CELL 'sum', in the pinned program and in every row, IS THE sha256 OF THE DUMP (.gsa) THAT YtnbaangnpoblfaaDoorProg.lean LOADS. Nothing in Lean hashes anything: it is a label: what it is worth is what the hold of that sum in a sandbox is worth. -/
noncomputable def Tryd.pinned : Pinned := { name := "ytnbaangnpoblfaadoor", sum := "435bef0feb2ba75c46b00f2dd159f2a0fd0ad4971b8522fb7be43a7c34eaf1ef", checked := Tryd.checked }
namespace Rows
def none {H : Type} : Left H := { results := [], args := [] }

/- WHAT THE LISTED PACKAGE-LEVEL VARIABLES READ AS WHEN THE CALL BEGINS. Each datum BY PROGRAM (the guide's laid-datum.mjs) off the statement by which the dump's own 'gosem.cut.vars' lays the variable. In a bare row this is a premise. The card (YtnbaangnpoblfaaDoorCards.lean) ties it to the program's text. -/
def laid_math_bits_deBruijn64tab {H : Type} : DataW H := .agg [.lit (.int .u8 0), .lit (.int .u8 1), .lit (.int .u8 56), .lit (.int .u8 2), .lit (.int .u8 57), .lit (.int .u8 49), .lit (.int .u8 28), .lit (.int .u8 3), .lit (.int .u8 61), .lit (.int .u8 58), .lit (.int .u8 42), .lit (.int .u8 50), .lit (.int .u8 38), .lit (.int .u8 29), .lit (.int .u8 17), .lit (.int .u8 4), .lit (.int .u8 62), .lit (.int .u8 47), .lit (.int .u8 59), .lit (.int .u8 36), .lit (.int .u8 45), .lit (.int .u8 43), .lit (.int .u8 51), .lit (.int .u8 22), .lit (.int .u8 53), .lit (.int .u8 39), .lit (.int .u8 33), .lit (.int .u8 30), .lit (.int .u8 24), .lit (.int .u8 18), .lit (.int .u8 12), .lit (.int .u8 5), .lit (.int .u8 63), .lit (.int .u8 55), .lit (.int .u8 48), .lit (.int .u8 27), .lit (.int .u8 60), .lit (.int .u8 41), .lit (.int .u8 37), .lit (.int .u8 16), .lit (.int .u8 46), .lit (.int .u8 35), .lit (.int .u8 44), .lit (.int .u8 21), .lit (.int .u8 52), .lit (.int .u8 32), .lit (.int .u8 23), .lit (.int .u8 11), .lit (.int .u8 54), .lit (.int .u8 26), .lit (.int .u8 40), .lit (.int .u8 15), .lit (.int .u8 34), .lit (.int .u8 20), .lit (.int .u8 31), .lit (.int .u8 10), .lit (.int .u8 25), .lit (.int .u8 14), .lit (.int .u8 19), .lit (.int .u8 9), .lit (.int .u8 13), .lit (.int .u8 8), .lit (.int .u8 7), .lit (.int .u8 6)]
def laid_gameroom_draughts_directions {H : Type} : DataW H := .agg [.lit (.int .i64 (-5)), .lit (.int .i64 (-4)), .lit (.int .i64 4), .lit (.int .i64 5)]
def laid_math_bits_deBruijn32tab {H : Type} : DataW H := .agg [.lit (.int .u8 0), .lit (.int .u8 1), .lit (.int .u8 28), .lit (.int .u8 2), .lit (.int .u8 29), .lit (.int .u8 14), .lit (.int .u8 24), .lit (.int .u8 3), .lit (.int .u8 30), .lit (.int .u8 22), .lit (.int .u8 20), .lit (.int .u8 15), .lit (.int .u8 25), .lit (.int .u8 17), .lit (.int .u8 4), .lit (.int .u8 8), .lit (.int .u8 31), .lit (.int .u8 27), .lit (.int .u8 13), .lit (.int .u8 23), .lit (.int .u8 21), .lit (.int .u8 19), .lit (.int .u8 16), .lit (.int .u8 7), .lit (.int .u8 26), .lit (.int .u8 12), .lit (.int .u8 18), .lit (.int .u8 6), .lit (.int .u8 11), .lit (.int .u8 5), .lit (.int .u8 10), .lit (.int .u8 9)]
def laid_internal_strconv_uint64pow10 {H : Type} : DataW H := .agg [.lit (.int .u64 1), .lit (.int .u64 10), .lit (.int .u64 100), .lit (.int .u64 1000), .lit (.int .u64 10000), .lit (.int .u64 100000), .lit (.int .u64 1000000), .lit (.int .u64 10000000), .lit (.int .u64 100000000), .lit (.int .u64 1000000000), .lit (.int .u64 10000000000), .lit (.int .u64 100000000000), .lit (.int .u64 1000000000000), .lit (.int .u64 10000000000000), .lit (.int .u64 100000000000000), .lit (.int .u64 1000000000000000), .lit (.int .u64 10000000000000000), .lit (.int .u64 100000000000000000), .lit (.int .u64 1000000000000000000), .lit (.int .u64 10000000000000000000)]

/-- 'gameroomlaw.DraughtsWays': WHATEVER THE INPUT: true; the input reads as it did. -/
def draughtsWaysSpec : ChangeSpec := { name := "draughtsWays", fn := fun _ => fun
  | [d] => { results := [.lit (.bool true)], args := [d] }
  | _ => none }
def draughtsWaysRow : OpenClaim := { program := "ytnbaangnpoblfaadoor", sum := "435bef0feb2ba75c46b00f2dd159f2a0fd0ad4971b8522fb7be43a7c34eaf1ef", func := "gameroom/gameroomlaw.DraughtsWays", spec := "draughtsWays", unfollowed := true, recurses := true, named := ["gameroom/draughts.directions", "math/bits.deBruijn64tab"], apart := false, laid := [("math/bits.deBruijn64tab", laid_math_bits_deBruijn64tab), ("gameroom/draughts.directions", laid_gameroom_draughts_directions)] }
def DraughtsWaysSaid : Prop := draughtsWaysRow.holds Tryd.pinned (OpenSpec.ofChange draughtsWaysSpec)

/-- ITS FALSE NEIGHBOUR: 'it returns false'. Refute it at one input. -/
def draughtsWaysWrong : ChangeSpec := { name := "draughtsWays", fn := fun _ => fun
  | [d] => { results := [.lit (.bool false)], args := [d] }
  | _ => none }
def DraughtsWaysWrongFalsely : Prop := draughtsWaysRow.holds Tryd.pinned (OpenSpec.ofChange draughtsWaysWrong)

/-- 'gameroomlaw.DraughtsDoes': WHATEVER THE INPUT: true; the input reads as it did. -/
def draughtsDoesSpec : ChangeSpec := { name := "draughtsDoes", fn := fun _ => fun
  | [d1, d2, d3] => { results := [.lit (.bool true)], args := [d1, d2, d3] }
  | _ => none }
def draughtsDoesRow : OpenClaim := { program := "ytnbaangnpoblfaadoor", sum := "435bef0feb2ba75c46b00f2dd159f2a0fd0ad4971b8522fb7be43a7c34eaf1ef", func := "gameroom/gameroomlaw.DraughtsDoes", spec := "draughtsDoes", unfollowed := true, recurses := true, named := ["gameroom/draughts.directions", "math/bits.deBruijn64tab"], apart := false, laid := [("math/bits.deBruijn64tab", laid_math_bits_deBruijn64tab), ("gameroom/draughts.directions", laid_gameroom_draughts_directions)] }
def DraughtsDoesSaid : Prop := draughtsDoesRow.holds Tryd.pinned (OpenSpec.ofChange draughtsDoesSpec)

/-- ITS FALSE NEIGHBOUR: 'it returns false'. Refute it at one input. -/
def draughtsDoesWrong : ChangeSpec := { name := "draughtsDoes", fn := fun _ => fun
  | [d1, d2, d3] => { results := [.lit (.bool false)], args := [d1, d2, d3] }
  | _ => none }
def DraughtsDoesWrongFalsely : Prop := draughtsDoesRow.holds Tryd.pinned (OpenSpec.ofChange draughtsDoesWrong)

/-- 'gameroomlaw.DraughtsTexts': WHATEVER THE INPUT: true; the input reads as it did. -/
def draughtsTextsSpec : ChangeSpec := { name := "draughtsTexts", fn := fun _ => fun
  | [d1, d2, d3] => { results := [.lit (.bool true)], args := [d1, d2, d3] }
  | _ => none }
def draughtsTextsRow : OpenClaim := { program := "ytnbaangnpoblfaadoor", sum := "435bef0feb2ba75c46b00f2dd159f2a0fd0ad4971b8522fb7be43a7c34eaf1ef", func := "gameroom/gameroomlaw.DraughtsTexts", spec := "draughtsTexts", inPlace := ["internal/abi.NoEscape", "internal/bytealg.IndexByteString", "internal/bytealg.IndexString"], unfollowed := true, recurses := true, named := ["internal/strconv.uint64pow10", "math/bits.deBruijn32tab", "math/bits.deBruijn64tab", "internal/bytealg.MaxLen"], apart := false, laid := [("math/bits.deBruijn32tab", laid_math_bits_deBruijn32tab), ("math/bits.deBruijn64tab", laid_math_bits_deBruijn64tab), ("internal/strconv.uint64pow10", laid_internal_strconv_uint64pow10)] }
def DraughtsTextsSaid : Prop := draughtsTextsRow.holds Tryd.pinned (OpenSpec.ofChange draughtsTextsSpec)

/-- ITS FALSE NEIGHBOUR: 'it returns false'. Refute it at one input. -/
def draughtsTextsWrong : ChangeSpec := { name := "draughtsTexts", fn := fun _ => fun
  | [d1, d2, d3] => { results := [.lit (.bool false)], args := [d1, d2, d3] }
  | _ => none }
def DraughtsTextsWrongFalsely : Prop := draughtsTextsRow.holds Tryd.pinned (OpenSpec.ofChange draughtsTextsWrong)

/-- 'gameroomkeep.DraughtsTurned': WHATEVER THE INPUT: true; the input reads as it did. -/
def draughtsTurnedSpec : ChangeSpec := { name := "draughtsTurned", fn := fun _ => fun
  | [d] => { results := [.lit (.bool true)], args := [d] }
  | _ => none }
def draughtsTurnedRow : OpenClaim := { program := "ytnbaangnpoblfaadoor", sum := "435bef0feb2ba75c46b00f2dd159f2a0fd0ad4971b8522fb7be43a7c34eaf1ef", func := "gameroom/gameroomkeep.DraughtsTurned", spec := "draughtsTurned", unfollowed := true, recurses := true, named := ["gameroom/draughts.directions", "math/bits.deBruijn64tab"], apart := false, laid := [("math/bits.deBruijn64tab", laid_math_bits_deBruijn64tab), ("gameroom/draughts.directions", laid_gameroom_draughts_directions)] }
def DraughtsTurnedSaid : Prop := draughtsTurnedRow.holds Tryd.pinned (OpenSpec.ofChange draughtsTurnedSpec)

/-- ITS FALSE NEIGHBOUR: 'it returns false'. Refute it at one input. -/
def draughtsTurnedWrong : ChangeSpec := { name := "draughtsTurned", fn := fun _ => fun
  | [d] => { results := [.lit (.bool false)], args := [d] }
  | _ => none }
def DraughtsTurnedWrongFalsely : Prop := draughtsTurnedRow.holds Tryd.pinned (OpenSpec.ofChange draughtsTurnedWrong)

/-- 'gameroomkeep.DraughtsTaken': WHATEVER THE INPUT: true; the input reads as it did. -/
def draughtsTakenSpec : ChangeSpec := { name := "draughtsTaken", fn := fun _ => fun
  | [d1, d2] => { results := [.lit (.bool true)], args := [d1, d2] }
  | _ => none }
def draughtsTakenRow : OpenClaim := { program := "ytnbaangnpoblfaadoor", sum := "435bef0feb2ba75c46b00f2dd159f2a0fd0ad4971b8522fb7be43a7c34eaf1ef", func := "gameroom/gameroomkeep.DraughtsTaken", spec := "draughtsTaken", inPlace := ["internal/abi.NoEscape", "internal/bytealg.IndexByteString", "internal/bytealg.IndexString"], unfollowed := true, recurses := true, named := ["gameroom/draughts.directions", "math/bits.deBruijn64tab", "internal/strconv.uint64pow10", "math/bits.deBruijn32tab", "internal/bytealg.MaxLen"], apart := false, laid := [("math/bits.deBruijn32tab", laid_math_bits_deBruijn32tab), ("math/bits.deBruijn64tab", laid_math_bits_deBruijn64tab), ("internal/strconv.uint64pow10", laid_internal_strconv_uint64pow10), ("gameroom/draughts.directions", laid_gameroom_draughts_directions)] }
def DraughtsTakenSaid : Prop := draughtsTakenRow.holds Tryd.pinned (OpenSpec.ofChange draughtsTakenSpec)

/-- ITS FALSE NEIGHBOUR: 'it returns false'. Refute it at one input. -/
def draughtsTakenWrong : ChangeSpec := { name := "draughtsTaken", fn := fun _ => fun
  | [d1, d2] => { results := [.lit (.bool false)], args := [d1, d2] }
  | _ => none }
def DraughtsTakenWrongFalsely : Prop := draughtsTakenRow.holds Tryd.pinned (OpenSpec.ofChange draughtsTakenWrong)

/- THE SECOND FORM. 'bulk': how many values and letters a reading holds, each counted each time it is reached (what is shared counts as often as it is met; a slice's spare places count too). A statement '..UptoSaid' is the law's where the arguments, and the package variables that the reading takes, are together of bulk at most 1048576: NARROWER than '..Said'. Prove '..Said' where nothing that the law and all that it calls make is longer than what came in: it says more and counts as full. Else prove '..UptoSaid'. A law counts once. -/
mutual
def uptoBulk {H : Type} : DataW H → Nat
  | .lit (.string bytes) => bytes.length + 1
  | .lit _ => 1
  | .nil => 1
  | .ptr d => uptoBulk d + 1
  | .slice elems spare => uptoBulkAll elems + uptoBulkAll spare + 1
  | .agg parts => uptoBulkAll parts + 1
  | .iface _ d => uptoBulk d + 1
  | .map entries => uptoBulkEntries entries + 1
  | .held _ => 1
def uptoBulkAll {H : Type} : List (DataW H) → Nat
  | [] => 0
  | d :: r => uptoBulk d + uptoBulkAll r
def uptoBulkEntries {H : Type} : List (Lit × DataW H) → Nat
  | [] => 0
  | x :: r => uptoBulkEntry x + uptoBulkEntries r
def uptoBulkEntry {H : Type} : Lit × DataW H → Nat
  | (.string bytes, d) => bytes.length + uptoBulk d + 1
  | (_, d) => uptoBulk d + 1
 end
def uptoSmall : (H : Type) → List (DataW H) → Bool := fun _ ds => decide (uptoBulkAll ds ≤ 1048576)
def OpenSpec.upto (s : _root_.Go.ChangeSpec) : _root_.Go.OpenSpec := { _root_.Go.OpenSpec.ofChange s with cond := some uptoSmall }

/-- 'gameroomlaw.DraughtsWays', WHERE WHAT IT READS IS OF BULK AT MOST 1048576: true; the input reads as it did. -/
def draughtsWaysUptoRow : OpenClaim := { program := "ytnbaangnpoblfaadoor", sum := "435bef0feb2ba75c46b00f2dd159f2a0fd0ad4971b8522fb7be43a7c34eaf1ef", func := "gameroom/gameroomlaw.DraughtsWays", spec := "draughtsWays", unfollowed := true, recurses := true, named := ["gameroom/draughts.directions", "math/bits.deBruijn64tab"], apart := false, laid := [("math/bits.deBruijn64tab", laid_math_bits_deBruijn64tab), ("gameroom/draughts.directions", laid_gameroom_draughts_directions)], narrowed := true }
def DraughtsWaysUptoSaid : Prop := draughtsWaysUptoRow.holds Tryd.pinned (OpenSpec.upto draughtsWaysSpec)

/-- 'gameroomlaw.DraughtsDoes', WHERE WHAT IT READS IS OF BULK AT MOST 1048576: true; the input reads as it did. -/
def draughtsDoesUptoRow : OpenClaim := { program := "ytnbaangnpoblfaadoor", sum := "435bef0feb2ba75c46b00f2dd159f2a0fd0ad4971b8522fb7be43a7c34eaf1ef", func := "gameroom/gameroomlaw.DraughtsDoes", spec := "draughtsDoes", unfollowed := true, recurses := true, named := ["gameroom/draughts.directions", "math/bits.deBruijn64tab"], apart := false, laid := [("math/bits.deBruijn64tab", laid_math_bits_deBruijn64tab), ("gameroom/draughts.directions", laid_gameroom_draughts_directions)], narrowed := true }
def DraughtsDoesUptoSaid : Prop := draughtsDoesUptoRow.holds Tryd.pinned (OpenSpec.upto draughtsDoesSpec)

/-- 'gameroomlaw.DraughtsTexts', WHERE WHAT IT READS IS OF BULK AT MOST 1048576: true; the input reads as it did. -/
def draughtsTextsUptoRow : OpenClaim := { program := "ytnbaangnpoblfaadoor", sum := "435bef0feb2ba75c46b00f2dd159f2a0fd0ad4971b8522fb7be43a7c34eaf1ef", func := "gameroom/gameroomlaw.DraughtsTexts", spec := "draughtsTexts", inPlace := ["internal/abi.NoEscape", "internal/bytealg.IndexByteString", "internal/bytealg.IndexString"], unfollowed := true, recurses := true, named := ["internal/strconv.uint64pow10", "math/bits.deBruijn32tab", "math/bits.deBruijn64tab", "internal/bytealg.MaxLen"], apart := false, laid := [("math/bits.deBruijn32tab", laid_math_bits_deBruijn32tab), ("math/bits.deBruijn64tab", laid_math_bits_deBruijn64tab), ("internal/strconv.uint64pow10", laid_internal_strconv_uint64pow10)], narrowed := true }
def DraughtsTextsUptoSaid : Prop := draughtsTextsUptoRow.holds Tryd.pinned (OpenSpec.upto draughtsTextsSpec)

/-- 'gameroomkeep.DraughtsTurned', WHERE WHAT IT READS IS OF BULK AT MOST 1048576: true; the input reads as it did. -/
def draughtsTurnedUptoRow : OpenClaim := { program := "ytnbaangnpoblfaadoor", sum := "435bef0feb2ba75c46b00f2dd159f2a0fd0ad4971b8522fb7be43a7c34eaf1ef", func := "gameroom/gameroomkeep.DraughtsTurned", spec := "draughtsTurned", unfollowed := true, recurses := true, named := ["gameroom/draughts.directions", "math/bits.deBruijn64tab"], apart := false, laid := [("math/bits.deBruijn64tab", laid_math_bits_deBruijn64tab), ("gameroom/draughts.directions", laid_gameroom_draughts_directions)], narrowed := true }
def DraughtsTurnedUptoSaid : Prop := draughtsTurnedUptoRow.holds Tryd.pinned (OpenSpec.upto draughtsTurnedSpec)

/-- 'gameroomkeep.DraughtsTaken', WHERE WHAT IT READS IS OF BULK AT MOST 1048576: true; the input reads as it did. -/
def draughtsTakenUptoRow : OpenClaim := { program := "ytnbaangnpoblfaadoor", sum := "435bef0feb2ba75c46b00f2dd159f2a0fd0ad4971b8522fb7be43a7c34eaf1ef", func := "gameroom/gameroomkeep.DraughtsTaken", spec := "draughtsTaken", inPlace := ["internal/abi.NoEscape", "internal/bytealg.IndexByteString", "internal/bytealg.IndexString"], unfollowed := true, recurses := true, named := ["gameroom/draughts.directions", "math/bits.deBruijn64tab", "internal/strconv.uint64pow10", "math/bits.deBruijn32tab", "internal/bytealg.MaxLen"], apart := false, laid := [("math/bits.deBruijn32tab", laid_math_bits_deBruijn32tab), ("math/bits.deBruijn64tab", laid_math_bits_deBruijn64tab), ("internal/strconv.uint64pow10", laid_internal_strconv_uint64pow10), ("gameroom/draughts.directions", laid_gameroom_draughts_directions)], narrowed := true }
def DraughtsTakenUptoSaid : Prop := draughtsTakenUptoRow.holds Tryd.pinned (OpenSpec.upto draughtsTakenSpec)

end Rows
end Go.Proofs.YtnbaangnpoblfaaDoor
