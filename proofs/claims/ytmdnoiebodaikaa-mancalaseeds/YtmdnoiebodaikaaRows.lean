/-
  No cell of these rows narrows 'for every input' (looked for: loops, veiled, ifaces, maps, wideKeys, modest, calm, conditions, laid).
  DERIVED. THE GIVEN ROWS OF THIS SEAT. 5 by the template 'for every input the law returns true; each argument reads behind the call as it read before'; 0 by the template 'total and deterministic' (their statements: YtmdnoiebodaikaaTotals.lean).
  GIVEN WITH THE SEED: the statements are not yours to turn. If you find one false, say at which input.
  Laid BY PROGRAM, IN A SANDBOX (cutbox-rows.mjs): the forced cells as the released guide's own fill.sh prints them over the translation 46993042f2537f7e… (all of the seat's roots in one cut). By AI agents, Wed Nov 11 2026. No macro, syntax, notation, axiom, sorry.
-/
import Derived.Test.YtmdnoiebodaikaaChecked
import GoSem.Claim
import GoSem.ClaimJoined
import GoSem.ClaimMapViews
import Derived.JoinedTies
import Derived.KernelRfl
namespace Go.Proofs.Ytmdnoiebodaikaa
/- THE CELL 'sum', in the pinned program and in every row, IS THE sha256 OF THE DUMP (.gsa) THAT YtmdnoiebodaikaaProg.lean LOADS. Nothing in Lean hashes anything: it is a label: what it is worth is what the hold of that sum in a sandbox is worth. -/
noncomputable def Try.pinned : Pinned := { name := "ytmdnoiebodaikaa", sum := "46993042f2537f7e7eea65133439b0583db4b4f1888908b6eff89bff04855976", checked := Try.checked }
namespace Rows
def none {H : Type} : Left H := { results := [], args := [] }

/-- 'gameroomlaw.MancalaNews': WHATEVER THE INPUT: true; the input reads as it did. -/
def mancalaNewsSpec : ChangeSpec := { name := "mancalaNews", fn := fun _ => fun
  | [d1, d2, d3] => { results := [.lit (.bool true)], args := [d1, d2, d3] }
  | _ => none }
def mancalaNewsRow : OpenClaim := { program := "ytmdnoiebodaikaa", sum := "46993042f2537f7e7eea65133439b0583db4b4f1888908b6eff89bff04855976", func := "gameroom/gameroomlaw.MancalaNews", spec := "mancalaNews", plainKeys := false, apart := false }
def MancalaNewsSaid : Prop := mancalaNewsRow.holds Try.pinned (OpenSpec.ofChange mancalaNewsSpec)

/-- ITS FALSE NEIGHBOUR: 'it returns false'. Refute it at one input. -/
def mancalaNewsWrong : ChangeSpec := { name := "mancalaNews", fn := fun _ => fun
  | [d1, d2, d3] => { results := [.lit (.bool false)], args := [d1, d2, d3] }
  | _ => none }
def MancalaNewsWrongFalsely : Prop := mancalaNewsRow.holds Try.pinned (OpenSpec.ofChange mancalaNewsWrong)

/-- 'gameroomlaw.MancalaSows': WHATEVER THE INPUT: true; the input reads as it did. -/
def mancalaSowsSpec : ChangeSpec := { name := "mancalaSows", fn := fun _ => fun
  | [d1, d2] => { results := [.lit (.bool true)], args := [d1, d2] }
  | _ => none }
def mancalaSowsRow : OpenClaim := { program := "ytmdnoiebodaikaa", sum := "46993042f2537f7e7eea65133439b0583db4b4f1888908b6eff89bff04855976", func := "gameroom/gameroomlaw.MancalaSows", spec := "mancalaSows", plainKeys := false, apart := false }
def MancalaSowsSaid : Prop := mancalaSowsRow.holds Try.pinned (OpenSpec.ofChange mancalaSowsSpec)

/-- ITS FALSE NEIGHBOUR: 'it returns false'. Refute it at one input. -/
def mancalaSowsWrong : ChangeSpec := { name := "mancalaSows", fn := fun _ => fun
  | [d1, d2] => { results := [.lit (.bool false)], args := [d1, d2] }
  | _ => none }
def MancalaSowsWrongFalsely : Prop := mancalaSowsRow.holds Try.pinned (OpenSpec.ofChange mancalaSowsWrong)

/-- 'gameroomlaw.MancalaValues': WHATEVER THE INPUT: true; the input reads as it did. -/
def mancalaValuesSpec : ChangeSpec := { name := "mancalaValues", fn := fun _ => fun
  | [d] => { results := [.lit (.bool true)], args := [d] }
  | _ => none }
def mancalaValuesRow : OpenClaim := { program := "ytmdnoiebodaikaa", sum := "46993042f2537f7e7eea65133439b0583db4b4f1888908b6eff89bff04855976", func := "gameroom/gameroomlaw.MancalaValues", spec := "mancalaValues", recurses := true, plainKeys := false, apart := false }
def MancalaValuesSaid : Prop := mancalaValuesRow.holds Try.pinned (OpenSpec.ofChange mancalaValuesSpec)

/-- ITS FALSE NEIGHBOUR: 'it returns false'. Refute it at one input. -/
def mancalaValuesWrong : ChangeSpec := { name := "mancalaValues", fn := fun _ => fun
  | [d] => { results := [.lit (.bool false)], args := [d] }
  | _ => none }
def MancalaValuesWrongFalsely : Prop := mancalaValuesRow.holds Try.pinned (OpenSpec.ofChange mancalaValuesWrong)

/-- 'gameroomkeep.MancalaSeeds': WHATEVER THE INPUT: true; the input reads as it did. -/
def mancalaSeedsSpec : ChangeSpec := { name := "mancalaSeeds", fn := fun _ => fun
  | [d1, d2, d3] => { results := [.lit (.bool true)], args := [d1, d2, d3] }
  | _ => none }
def mancalaSeedsRow : OpenClaim := { program := "ytmdnoiebodaikaa", sum := "46993042f2537f7e7eea65133439b0583db4b4f1888908b6eff89bff04855976", func := "gameroom/gameroomkeep.MancalaSeeds", spec := "mancalaSeeds", plainKeys := false, apart := false }
def MancalaSeedsSaid : Prop := mancalaSeedsRow.holds Try.pinned (OpenSpec.ofChange mancalaSeedsSpec)

/-- ITS FALSE NEIGHBOUR: 'it returns false'. Refute it at one input. -/
def mancalaSeedsWrong : ChangeSpec := { name := "mancalaSeeds", fn := fun _ => fun
  | [d1, d2, d3] => { results := [.lit (.bool false)], args := [d1, d2, d3] }
  | _ => none }
def MancalaSeedsWrongFalsely : Prop := mancalaSeedsRow.holds Try.pinned (OpenSpec.ofChange mancalaSeedsWrong)

/-- 'gameroomkeep.MancalaTurns': WHATEVER THE INPUT: true; the input reads as it did. -/
def mancalaTurnsSpec : ChangeSpec := { name := "mancalaTurns", fn := fun _ => fun
  | [d] => { results := [.lit (.bool true)], args := [d] }
  | _ => none }
def mancalaTurnsRow : OpenClaim := { program := "ytmdnoiebodaikaa", sum := "46993042f2537f7e7eea65133439b0583db4b4f1888908b6eff89bff04855976", func := "gameroom/gameroomkeep.MancalaTurns", spec := "mancalaTurns", recurses := true, plainKeys := false, apart := false }
def MancalaTurnsSaid : Prop := mancalaTurnsRow.holds Try.pinned (OpenSpec.ofChange mancalaTurnsSpec)

/-- ITS FALSE NEIGHBOUR: 'it returns false'. Refute it at one input. -/
def mancalaTurnsWrong : ChangeSpec := { name := "mancalaTurns", fn := fun _ => fun
  | [d] => { results := [.lit (.bool false)], args := [d] }
  | _ => none }
def MancalaTurnsWrongFalsely : Prop := mancalaTurnsRow.holds Try.pinned (OpenSpec.ofChange mancalaTurnsWrong)

/- THE SECOND FORM. 'bulk': how many values and letters a reading holds, each counted each time it is reached (what is shared counts as often as it is met; a slice's spare places count too). A statement '..UptoSaid' is the law's where the arguments, and the package variables that the reading takes, are together of bulk at most 1048576: NARROWER than '..Said'. Prove '..Said' where nothing that the law and all that it calls make is longer than what came in: it says more and counts as full. Else prove '..UptoSaid'. A law counts once. -/
mutual
def uptoBulk {H : Type} : DataW H → Nat
  | .lit (.string bytes) => bytes.length + 1
  | .lit _ => 1
  | .nil => 1
  | .ptr d => uptoBulk d + 1
  | .slice elems spare => uptoBulkAll elems + uptoBulkAll spare + 1
  | .agg parts => uptoBulkAll parts + 1
  | .iface _ d => uptoBulk d + 1
  | .map entries => uptoBulkEntries entries + 1
  | .held _ => 1
def uptoBulkAll {H : Type} : List (DataW H) → Nat
  | [] => 0
  | d :: r => uptoBulk d + uptoBulkAll r
def uptoBulkEntries {H : Type} : List (Lit × DataW H) → Nat
  | [] => 0
  | x :: r => uptoBulkEntry x + uptoBulkEntries r
def uptoBulkEntry {H : Type} : Lit × DataW H → Nat
  | (.string bytes, d) => bytes.length + uptoBulk d + 1
  | (_, d) => uptoBulk d + 1
 end
def uptoSmall : (H : Type) → List (DataW H) → Bool := fun _ ds => decide (uptoBulkAll ds ≤ 1048576)
def OpenSpec.upto (s : _root_.Go.ChangeSpec) : _root_.Go.OpenSpec := { _root_.Go.OpenSpec.ofChange s with cond := some uptoSmall }

/-- 'gameroomlaw.MancalaNews', WHERE WHAT IT READS IS OF BULK AT MOST 1048576: true; the input reads as it did. -/
def mancalaNewsUptoRow : OpenClaim := { program := "ytmdnoiebodaikaa", sum := "46993042f2537f7e7eea65133439b0583db4b4f1888908b6eff89bff04855976", func := "gameroom/gameroomlaw.MancalaNews", spec := "mancalaNews", plainKeys := false, apart := false, narrowed := true }
def MancalaNewsUptoSaid : Prop := mancalaNewsUptoRow.holds Try.pinned (OpenSpec.upto mancalaNewsSpec)

/-- 'gameroomlaw.MancalaSows', WHERE WHAT IT READS IS OF BULK AT MOST 1048576: true; the input reads as it did. -/
def mancalaSowsUptoRow : OpenClaim := { program := "ytmdnoiebodaikaa", sum := "46993042f2537f7e7eea65133439b0583db4b4f1888908b6eff89bff04855976", func := "gameroom/gameroomlaw.MancalaSows", spec := "mancalaSows", plainKeys := false, apart := false, narrowed := true }
def MancalaSowsUptoSaid : Prop := mancalaSowsUptoRow.holds Try.pinned (OpenSpec.upto mancalaSowsSpec)

/-- 'gameroomlaw.MancalaValues', WHERE WHAT IT READS IS OF BULK AT MOST 1048576: true; the input reads as it did. -/
def mancalaValuesUptoRow : OpenClaim := { program := "ytmdnoiebodaikaa", sum := "46993042f2537f7e7eea65133439b0583db4b4f1888908b6eff89bff04855976", func := "gameroom/gameroomlaw.MancalaValues", spec := "mancalaValues", recurses := true, plainKeys := false, apart := false, narrowed := true }
def MancalaValuesUptoSaid : Prop := mancalaValuesUptoRow.holds Try.pinned (OpenSpec.upto mancalaValuesSpec)

/-- 'gameroomkeep.MancalaSeeds', WHERE WHAT IT READS IS OF BULK AT MOST 1048576: true; the input reads as it did. -/
def mancalaSeedsUptoRow : OpenClaim := { program := "ytmdnoiebodaikaa", sum := "46993042f2537f7e7eea65133439b0583db4b4f1888908b6eff89bff04855976", func := "gameroom/gameroomkeep.MancalaSeeds", spec := "mancalaSeeds", plainKeys := false, apart := false, narrowed := true }
def MancalaSeedsUptoSaid : Prop := mancalaSeedsUptoRow.holds Try.pinned (OpenSpec.upto mancalaSeedsSpec)

/-- 'gameroomkeep.MancalaTurns', WHERE WHAT IT READS IS OF BULK AT MOST 1048576: true; the input reads as it did. -/
def mancalaTurnsUptoRow : OpenClaim := { program := "ytmdnoiebodaikaa", sum := "46993042f2537f7e7eea65133439b0583db4b4f1888908b6eff89bff04855976", func := "gameroom/gameroomkeep.MancalaTurns", spec := "mancalaTurns", recurses := true, plainKeys := false, apart := false, narrowed := true }
def MancalaTurnsUptoSaid : Prop := mancalaTurnsUptoRow.holds Try.pinned (OpenSpec.upto mancalaTurnsSpec)

end Rows
end Go.Proofs.Ytmdnoiebodaikaa
