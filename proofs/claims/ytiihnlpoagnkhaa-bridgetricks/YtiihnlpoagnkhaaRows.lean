/-
  No cell of these rows narrows 'for every input' (looked for: loops, veiled, ifaces, maps, wideKeys, modest, calm, conditions, laid).
  DERIVED. THE GIVEN ROWS OF THIS SEAT. 4 by the template 'for every input the law returns true; each argument reads behind the call as it read before'; 0 by the template 'total and deterministic' (their statements: YtiihnlpoagnkhaaTotals.lean).
  GIVEN WITH THE SEED: the statements are not yours to turn. If you find one false, say at which input.
  Laid BY PROGRAM, IN A SANDBOX (cutbox-rows.mjs): the forced cells as the released guide's own fill.sh prints them over the translation 28d64b4a71505b1c… (all of the seat's roots in one cut). By AI agents, Wed Nov 11 2026. No macro, syntax, notation, axiom, sorry.
-/
import Derived.Test.YtiihnlpoagnkhaaChecked
import GoSem.Claim
import GoSem.ClaimJoined
import GoSem.ClaimMapViews
import Derived.JoinedTies
import Derived.KernelRfl
namespace Go.Proofs.Ytiihnlpoagnkhaa
/- THE CELL 'sum', in the pinned program and in every row, IS THE sha256 OF THE DUMP (.gsa) THAT YtiihnlpoagnkhaaProg.lean LOADS. Nothing in Lean hashes anything: it is a label: what it is worth is what the hold of that sum in a sandbox is worth. -/
noncomputable def Try.pinned : Pinned := { name := "ytiihnlpoagnkhaa", sum := "28d64b4a71505b1c5274e443cec3c409c5d6a16d1e5eddaaf7b27010c67a8ad4", checked := Try.checked }
namespace Rows
def none {H : Type} : Left H := { results := [], args := [] }

/-- 'gameroomlaw.BridgeTricks': WHATEVER THE INPUT: true; the input reads as it did. -/
def bridgeTricksSpec : ChangeSpec := { name := "bridgeTricks", fn := fun _ => fun
  | [d1, d2, d3, d4, d5] => { results := [.lit (.bool true)], args := [d1, d2, d3, d4, d5] }
  | _ => none }
def bridgeTricksRow : OpenClaim := { program := "ytiihnlpoagnkhaa", sum := "28d64b4a71505b1c5274e443cec3c409c5d6a16d1e5eddaaf7b27010c67a8ad4", func := "gameroom/gameroomlaw.BridgeTricks", spec := "bridgeTricks", unfollowed := true, recurses := true, apart := false }
def BridgeTricksSaid : Prop := bridgeTricksRow.holds Try.pinned (OpenSpec.ofChange bridgeTricksSpec)

/-- ITS FALSE NEIGHBOUR: 'it returns false'. Refute it at one input. -/
def bridgeTricksWrong : ChangeSpec := { name := "bridgeTricks", fn := fun _ => fun
  | [d1, d2, d3, d4, d5] => { results := [.lit (.bool false)], args := [d1, d2, d3, d4, d5] }
  | _ => none }
def BridgeTricksWrongFalsely : Prop := bridgeTricksRow.holds Try.pinned (OpenSpec.ofChange bridgeTricksWrong)

/-- 'gameroomlaw.BridgeAuctions': WHATEVER THE INPUT: true; the input reads as it did. -/
def bridgeAuctionsSpec : ChangeSpec := { name := "bridgeAuctions", fn := fun _ => fun
  | [d] => { results := [.lit (.bool true)], args := [d] }
  | _ => none }
def bridgeAuctionsRow : OpenClaim := { program := "ytiihnlpoagnkhaa", sum := "28d64b4a71505b1c5274e443cec3c409c5d6a16d1e5eddaaf7b27010c67a8ad4", func := "gameroom/gameroomlaw.BridgeAuctions", spec := "bridgeAuctions", unfollowed := true, recurses := true, apart := false }
def BridgeAuctionsSaid : Prop := bridgeAuctionsRow.holds Try.pinned (OpenSpec.ofChange bridgeAuctionsSpec)

/-- ITS FALSE NEIGHBOUR: 'it returns false'. Refute it at one input. -/
def bridgeAuctionsWrong : ChangeSpec := { name := "bridgeAuctions", fn := fun _ => fun
  | [d] => { results := [.lit (.bool false)], args := [d] }
  | _ => none }
def BridgeAuctionsWrongFalsely : Prop := bridgeAuctionsRow.holds Try.pinned (OpenSpec.ofChange bridgeAuctionsWrong)

/-- 'gameroomlaw.BridgeScores': WHATEVER THE INPUT: true; the input reads as it did. -/
def bridgeScoresSpec : ChangeSpec := { name := "bridgeScores", fn := fun _ => fun
  | [d1, d2, d3] => { results := [.lit (.bool true)], args := [d1, d2, d3] }
  | _ => none }
def bridgeScoresRow : OpenClaim := { program := "ytiihnlpoagnkhaa", sum := "28d64b4a71505b1c5274e443cec3c409c5d6a16d1e5eddaaf7b27010c67a8ad4", func := "gameroom/gameroomlaw.BridgeScores", spec := "bridgeScores", apart := false }
def BridgeScoresSaid : Prop := bridgeScoresRow.holds Try.pinned (OpenSpec.ofChange bridgeScoresSpec)

/-- ITS FALSE NEIGHBOUR: 'it returns false'. Refute it at one input. -/
def bridgeScoresWrong : ChangeSpec := { name := "bridgeScores", fn := fun _ => fun
  | [d1, d2, d3] => { results := [.lit (.bool false)], args := [d1, d2, d3] }
  | _ => none }
def BridgeScoresWrongFalsely : Prop := bridgeScoresRow.holds Try.pinned (OpenSpec.ofChange bridgeScoresWrong)

/-- 'gameroomkeep.BridgeEnds': WHATEVER THE INPUT: true; the input reads as it did. -/
def bridgeEndsSpec : ChangeSpec := { name := "bridgeEnds", fn := fun _ => fun
  | [d1, d2, d3] => { results := [.lit (.bool true)], args := [d1, d2, d3] }
  | _ => none }
def bridgeEndsRow : OpenClaim := { program := "ytiihnlpoagnkhaa", sum := "28d64b4a71505b1c5274e443cec3c409c5d6a16d1e5eddaaf7b27010c67a8ad4", func := "gameroom/gameroomkeep.BridgeEnds", spec := "bridgeEnds", unfollowed := true, recurses := true, apart := false }
def BridgeEndsSaid : Prop := bridgeEndsRow.holds Try.pinned (OpenSpec.ofChange bridgeEndsSpec)

/-- ITS FALSE NEIGHBOUR: 'it returns false'. Refute it at one input. -/
def bridgeEndsWrong : ChangeSpec := { name := "bridgeEnds", fn := fun _ => fun
  | [d1, d2, d3] => { results := [.lit (.bool false)], args := [d1, d2, d3] }
  | _ => none }
def BridgeEndsWrongFalsely : Prop := bridgeEndsRow.holds Try.pinned (OpenSpec.ofChange bridgeEndsWrong)

/- THE SECOND FORM. 'bulk': how many values and letters a reading holds, each counted each time it is reached (what is shared counts as often as it is met; a slice's spare places count too). A statement '..UptoSaid' is the law's where the arguments, and the package variables that the reading takes, are together of bulk at most 1048576: NARROWER than '..Said'. Prove '..Said' where nothing that the law and all that it calls make is longer than what came in: it says more and counts as full. Else prove '..UptoSaid'. A law counts once. -/
mutual
def uptoBulk {H : Type} : DataW H → Nat
  | .lit (.string bytes) => bytes.length + 1
  | .lit _ => 1
  | .nil => 1
  | .ptr d => uptoBulk d + 1
  | .slice elems spare => uptoBulkAll elems + uptoBulkAll spare + 1
  | .agg parts => uptoBulkAll parts + 1
  | .iface _ d => uptoBulk d + 1
  | .map entries => uptoBulkEntries entries + 1
  | .held _ => 1
def uptoBulkAll {H : Type} : List (DataW H) → Nat
  | [] => 0
  | d :: r => uptoBulk d + uptoBulkAll r
def uptoBulkEntries {H : Type} : List (Lit × DataW H) → Nat
  | [] => 0
  | x :: r => uptoBulkEntry x + uptoBulkEntries r
def uptoBulkEntry {H : Type} : Lit × DataW H → Nat
  | (.string bytes, d) => bytes.length + uptoBulk d + 1
  | (_, d) => uptoBulk d + 1
 end
def uptoSmall : (H : Type) → List (DataW H) → Bool := fun _ ds => decide (uptoBulkAll ds ≤ 1048576)
def OpenSpec.upto (s : _root_.Go.ChangeSpec) : _root_.Go.OpenSpec := { _root_.Go.OpenSpec.ofChange s with cond := some uptoSmall }

/-- 'gameroomlaw.BridgeTricks', WHERE WHAT IT READS IS OF BULK AT MOST 1048576: true; the input reads as it did. -/
def bridgeTricksUptoRow : OpenClaim := { program := "ytiihnlpoagnkhaa", sum := "28d64b4a71505b1c5274e443cec3c409c5d6a16d1e5eddaaf7b27010c67a8ad4", func := "gameroom/gameroomlaw.BridgeTricks", spec := "bridgeTricks", unfollowed := true, recurses := true, apart := false, narrowed := true }
def BridgeTricksUptoSaid : Prop := bridgeTricksUptoRow.holds Try.pinned (OpenSpec.upto bridgeTricksSpec)

/-- 'gameroomlaw.BridgeAuctions', WHERE WHAT IT READS IS OF BULK AT MOST 1048576: true; the input reads as it did. -/
def bridgeAuctionsUptoRow : OpenClaim := { program := "ytiihnlpoagnkhaa", sum := "28d64b4a71505b1c5274e443cec3c409c5d6a16d1e5eddaaf7b27010c67a8ad4", func := "gameroom/gameroomlaw.BridgeAuctions", spec := "bridgeAuctions", unfollowed := true, recurses := true, apart := false, narrowed := true }
def BridgeAuctionsUptoSaid : Prop := bridgeAuctionsUptoRow.holds Try.pinned (OpenSpec.upto bridgeAuctionsSpec)

/-- 'gameroomlaw.BridgeScores', WHERE WHAT IT READS IS OF BULK AT MOST 1048576: true; the input reads as it did. -/
def bridgeScoresUptoRow : OpenClaim := { program := "ytiihnlpoagnkhaa", sum := "28d64b4a71505b1c5274e443cec3c409c5d6a16d1e5eddaaf7b27010c67a8ad4", func := "gameroom/gameroomlaw.BridgeScores", spec := "bridgeScores", apart := false, narrowed := true }
def BridgeScoresUptoSaid : Prop := bridgeScoresUptoRow.holds Try.pinned (OpenSpec.upto bridgeScoresSpec)

/-- 'gameroomkeep.BridgeEnds', WHERE WHAT IT READS IS OF BULK AT MOST 1048576: true; the input reads as it did. -/
def bridgeEndsUptoRow : OpenClaim := { program := "ytiihnlpoagnkhaa", sum := "28d64b4a71505b1c5274e443cec3c409c5d6a16d1e5eddaaf7b27010c67a8ad4", func := "gameroom/gameroomkeep.BridgeEnds", spec := "bridgeEnds", unfollowed := true, recurses := true, apart := false, narrowed := true }
def BridgeEndsUptoSaid : Prop := bridgeEndsUptoRow.holds Try.pinned (OpenSpec.upto bridgeEndsSpec)

end Rows
end Go.Proofs.Ytiihnlpoagnkhaa
