/-
  No cell of these rows narrows 'for every input' (looked for: loops, veiled, ifaces, maps, wideKeys, modest, calm, conditions, laid).
  DERIVED. THE GIVEN ROWS OF THIS SEAT. 5 by the template 'for every input the law returns true; each argument reads behind the call as it read before'; 0 by the template 'total and deterministic' (their statements: YtneafmjbekafmaaTotals.lean).
  GIVEN WITH THE SEED: the statements are not yours to turn. If you find one false, say at which input.
  Laid BY PROGRAM, IN A SANDBOX (cutbox-rows.mjs): the forced cells as the released guide's own fill.sh prints them over the translation b7bd47dedd4dbdc2… (all of the seat's roots in one cut). By AI agents, Wed Nov 11 2026. No macro, syntax, notation, axiom, sorry.
-/
import Derived.Test.YtneafmjbekafmaaChecked
import GoSem.Claim
import GoSem.ClaimJoined
import GoSem.ClaimMapViews
import Derived.JoinedTies
import Derived.KernelRfl
namespace Go.Proofs.Ytneafmjbekafmaa
/- THE CELL 'sum', in the pinned program and in every row, IS THE sha256 OF THE DUMP (.gsa) THAT YtneafmjbekafmaaProg.lean LOADS. Nothing in Lean hashes anything: it is a label: what it is worth is what the hold of that sum in a sandbox is worth. -/
noncomputable def Try.pinned : Pinned := { name := "ytneafmjbekafmaa", sum := "b7bd47dedd4dbdc2bc17de42a6f5c1eac523f3d78a831d71a8bed8129c023136", checked := Try.checked }
namespace Rows
def none {H : Type} : Left H := { results := [], args := [] }

/-- 'gameroomlaw.CribShows': WHATEVER THE INPUT: true; the input reads as it did. -/
def cribShowsSpec : ChangeSpec := { name := "cribShows", fn := fun _ => fun
  | [d1, d2, d3] => { results := [.lit (.bool true)], args := [d1, d2, d3] }
  | _ => none }
def cribShowsRow : OpenClaim := { program := "ytneafmjbekafmaa", sum := "b7bd47dedd4dbdc2bc17de42a6f5c1eac523f3d78a831d71a8bed8129c023136", func := "gameroom/gameroomlaw.CribShows", spec := "cribShows", unfollowed := true, recurses := true, apart := false }
def CribShowsSaid : Prop := cribShowsRow.holds Try.pinned (OpenSpec.ofChange cribShowsSpec)

/-- ITS FALSE NEIGHBOUR: 'it returns false'. Refute it at one input. -/
def cribShowsWrong : ChangeSpec := { name := "cribShows", fn := fun _ => fun
  | [d1, d2, d3] => { results := [.lit (.bool false)], args := [d1, d2, d3] }
  | _ => none }
def CribShowsWrongFalsely : Prop := cribShowsRow.holds Try.pinned (OpenSpec.ofChange cribShowsWrong)

/-- 'gameroomlaw.CribKeeps': WHATEVER THE INPUT: true; the input reads as it did. -/
def cribKeepsSpec : ChangeSpec := { name := "cribKeeps", fn := fun _ => fun
  | [d] => { results := [.lit (.bool true)], args := [d] }
  | _ => none }
def cribKeepsRow : OpenClaim := { program := "ytneafmjbekafmaa", sum := "b7bd47dedd4dbdc2bc17de42a6f5c1eac523f3d78a831d71a8bed8129c023136", func := "gameroom/gameroomlaw.CribKeeps", spec := "cribKeeps", unfollowed := true, recurses := true, apart := false }
def CribKeepsSaid : Prop := cribKeepsRow.holds Try.pinned (OpenSpec.ofChange cribKeepsSpec)

/-- ITS FALSE NEIGHBOUR: 'it returns false'. Refute it at one input. -/
def cribKeepsWrong : ChangeSpec := { name := "cribKeeps", fn := fun _ => fun
  | [d] => { results := [.lit (.bool false)], args := [d] }
  | _ => none }
def CribKeepsWrongFalsely : Prop := cribKeepsRow.holds Try.pinned (OpenSpec.ofChange cribKeepsWrong)

/-- 'gameroomlaw.CribPegs': WHATEVER THE INPUT: true; the input reads as it did. -/
def cribPegsSpec : ChangeSpec := { name := "cribPegs", fn := fun _ => fun
  | [d] => { results := [.lit (.bool true)], args := [d] }
  | _ => none }
def cribPegsRow : OpenClaim := { program := "ytneafmjbekafmaa", sum := "b7bd47dedd4dbdc2bc17de42a6f5c1eac523f3d78a831d71a8bed8129c023136", func := "gameroom/gameroomlaw.CribPegs", spec := "cribPegs", unfollowed := true, recurses := true, apart := false }
def CribPegsSaid : Prop := cribPegsRow.holds Try.pinned (OpenSpec.ofChange cribPegsSpec)

/-- ITS FALSE NEIGHBOUR: 'it returns false'. Refute it at one input. -/
def cribPegsWrong : ChangeSpec := { name := "cribPegs", fn := fun _ => fun
  | [d] => { results := [.lit (.bool false)], args := [d] }
  | _ => none }
def CribPegsWrongFalsely : Prop := cribPegsRow.holds Try.pinned (OpenSpec.ofChange cribPegsWrong)

/-- 'gameroomkeep.CribOrders': WHATEVER THE INPUT: true; the input reads as it did. -/
def cribOrdersSpec : ChangeSpec := { name := "cribOrders", fn := fun _ => fun
  | [d1, d2] => { results := [.lit (.bool true)], args := [d1, d2] }
  | _ => none }
def cribOrdersRow : OpenClaim := { program := "ytneafmjbekafmaa", sum := "b7bd47dedd4dbdc2bc17de42a6f5c1eac523f3d78a831d71a8bed8129c023136", func := "gameroom/gameroomkeep.CribOrders", spec := "cribOrders", unfollowed := true, recurses := true, apart := false }
def CribOrdersSaid : Prop := cribOrdersRow.holds Try.pinned (OpenSpec.ofChange cribOrdersSpec)

/-- ITS FALSE NEIGHBOUR: 'it returns false'. Refute it at one input. -/
def cribOrdersWrong : ChangeSpec := { name := "cribOrders", fn := fun _ => fun
  | [d1, d2] => { results := [.lit (.bool false)], args := [d1, d2] }
  | _ => none }
def CribOrdersWrongFalsely : Prop := cribOrdersRow.holds Try.pinned (OpenSpec.ofChange cribOrdersWrong)

/-- 'gameroomkeep.CribKept': WHATEVER THE INPUT: true; the input reads as it did. -/
def cribKeptSpec : ChangeSpec := { name := "cribKept", fn := fun _ => fun
  | [d1, d2, d3] => { results := [.lit (.bool true)], args := [d1, d2, d3] }
  | _ => none }
def cribKeptRow : OpenClaim := { program := "ytneafmjbekafmaa", sum := "b7bd47dedd4dbdc2bc17de42a6f5c1eac523f3d78a831d71a8bed8129c023136", func := "gameroom/gameroomkeep.CribKept", spec := "cribKept", unfollowed := true, recurses := true, apart := false }
def CribKeptSaid : Prop := cribKeptRow.holds Try.pinned (OpenSpec.ofChange cribKeptSpec)

/-- ITS FALSE NEIGHBOUR: 'it returns false'. Refute it at one input. -/
def cribKeptWrong : ChangeSpec := { name := "cribKept", fn := fun _ => fun
  | [d1, d2, d3] => { results := [.lit (.bool false)], args := [d1, d2, d3] }
  | _ => none }
def CribKeptWrongFalsely : Prop := cribKeptRow.holds Try.pinned (OpenSpec.ofChange cribKeptWrong)

/- THE SECOND FORM. 'bulk': how many values and letters a reading holds, each counted each time it is reached (what is shared counts as often as it is met; a slice's spare places count too). A statement '..UptoSaid' is the law's where the arguments, and the package variables that the reading takes, are together of bulk at most 1048576: NARROWER than '..Said'. Prove '..Said' where nothing that the law and all that it calls make is longer than what came in: it says more and counts as full. Else prove '..UptoSaid'. A law counts once. -/
mutual
def uptoBulk {H : Type} : DataW H → Nat
  | .lit (.string bytes) => bytes.length + 1
  | .lit _ => 1
  | .nil => 1
  | .ptr d => uptoBulk d + 1
  | .slice elems spare => uptoBulkAll elems + uptoBulkAll spare + 1
  | .agg parts => uptoBulkAll parts + 1
  | .iface _ d => uptoBulk d + 1
  | .map entries => uptoBulkEntries entries + 1
  | .held _ => 1
def uptoBulkAll {H : Type} : List (DataW H) → Nat
  | [] => 0
  | d :: r => uptoBulk d + uptoBulkAll r
def uptoBulkEntries {H : Type} : List (Lit × DataW H) → Nat
  | [] => 0
  | x :: r => uptoBulkEntry x + uptoBulkEntries r
def uptoBulkEntry {H : Type} : Lit × DataW H → Nat
  | (.string bytes, d) => bytes.length + uptoBulk d + 1
  | (_, d) => uptoBulk d + 1
 end
def uptoSmall : (H : Type) → List (DataW H) → Bool := fun _ ds => decide (uptoBulkAll ds ≤ 1048576)
def OpenSpec.upto (s : _root_.Go.ChangeSpec) : _root_.Go.OpenSpec := { _root_.Go.OpenSpec.ofChange s with cond := some uptoSmall }

/-- 'gameroomlaw.CribShows', WHERE WHAT IT READS IS OF BULK AT MOST 1048576: true; the input reads as it did. -/
def cribShowsUptoRow : OpenClaim := { program := "ytneafmjbekafmaa", sum := "b7bd47dedd4dbdc2bc17de42a6f5c1eac523f3d78a831d71a8bed8129c023136", func := "gameroom/gameroomlaw.CribShows", spec := "cribShows", unfollowed := true, recurses := true, apart := false, narrowed := true }
def CribShowsUptoSaid : Prop := cribShowsUptoRow.holds Try.pinned (OpenSpec.upto cribShowsSpec)

/-- 'gameroomlaw.CribKeeps', WHERE WHAT IT READS IS OF BULK AT MOST 1048576: true; the input reads as it did. -/
def cribKeepsUptoRow : OpenClaim := { program := "ytneafmjbekafmaa", sum := "b7bd47dedd4dbdc2bc17de42a6f5c1eac523f3d78a831d71a8bed8129c023136", func := "gameroom/gameroomlaw.CribKeeps", spec := "cribKeeps", unfollowed := true, recurses := true, apart := false, narrowed := true }
def CribKeepsUptoSaid : Prop := cribKeepsUptoRow.holds Try.pinned (OpenSpec.upto cribKeepsSpec)

/-- 'gameroomlaw.CribPegs', WHERE WHAT IT READS IS OF BULK AT MOST 1048576: true; the input reads as it did. -/
def cribPegsUptoRow : OpenClaim := { program := "ytneafmjbekafmaa", sum := "b7bd47dedd4dbdc2bc17de42a6f5c1eac523f3d78a831d71a8bed8129c023136", func := "gameroom/gameroomlaw.CribPegs", spec := "cribPegs", unfollowed := true, recurses := true, apart := false, narrowed := true }
def CribPegsUptoSaid : Prop := cribPegsUptoRow.holds Try.pinned (OpenSpec.upto cribPegsSpec)

/-- 'gameroomkeep.CribOrders', WHERE WHAT IT READS IS OF BULK AT MOST 1048576: true; the input reads as it did. -/
def cribOrdersUptoRow : OpenClaim := { program := "ytneafmjbekafmaa", sum := "b7bd47dedd4dbdc2bc17de42a6f5c1eac523f3d78a831d71a8bed8129c023136", func := "gameroom/gameroomkeep.CribOrders", spec := "cribOrders", unfollowed := true, recurses := true, apart := false, narrowed := true }
def CribOrdersUptoSaid : Prop := cribOrdersUptoRow.holds Try.pinned (OpenSpec.upto cribOrdersSpec)

/-- 'gameroomkeep.CribKept', WHERE WHAT IT READS IS OF BULK AT MOST 1048576: true; the input reads as it did. -/
def cribKeptUptoRow : OpenClaim := { program := "ytneafmjbekafmaa", sum := "b7bd47dedd4dbdc2bc17de42a6f5c1eac523f3d78a831d71a8bed8129c023136", func := "gameroom/gameroomkeep.CribKept", spec := "cribKept", unfollowed := true, recurses := true, apart := false, narrowed := true }
def CribKeptUptoSaid : Prop := cribKeptUptoRow.holds Try.pinned (OpenSpec.upto cribKeptSpec)

end Rows
end Go.Proofs.Ytneafmjbekafmaa
