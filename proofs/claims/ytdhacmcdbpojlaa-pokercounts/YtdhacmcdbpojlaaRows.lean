/-
  No cell of these rows narrows 'for every input' (looked for: loops, veiled, ifaces, maps, wideKeys, modest, calm, conditions, laid).
  DERIVED. THE GIVEN ROWS OF THIS SEAT. 5 by the template 'for every input the law returns true; each argument reads behind the call as it read before'; 0 by the template 'total and deterministic' (their statements: YtdhacmcdbpojlaaTotals.lean).
  GIVEN WITH THE SEED: the statements are not yours to turn. If you find one false, say at which input.
  Laid BY PROGRAM, IN A SANDBOX (cutbox-rows.mjs): the forced cells as the released guide's own fill.sh prints them over the translation 239787e4b7440d7b… (all of the seat's roots in one cut). By AI agents, Wed Nov 11 2026. No macro, syntax, notation, axiom, sorry.
-/
import Derived.Test.YtdhacmcdbpojlaaChecked
import GoSem.Claim
import GoSem.ClaimJoined
import GoSem.ClaimMapViews
import Derived.JoinedTies
import Derived.KernelRfl
namespace Go.Proofs.Ytdhacmcdbpojlaa
/- THE CELL 'sum', in the pinned program and in every row, IS THE sha256 OF THE DUMP (.gsa) THAT YtdhacmcdbpojlaaProg.lean LOADS. Nothing in Lean hashes anything: it is a label: what it is worth is what the hold of that sum in a sandbox is worth. -/
noncomputable def Try.pinned : Pinned := { name := "ytdhacmcdbpojlaa", sum := "239787e4b7440d7ba171047d8fc99bf2ab1cd277d0073544a54049512dc35f32", checked := Try.checked }
namespace Rows
def none {H : Type} : Left H := { results := [], args := [] }

/-- 'gameroomlaw.PokerValues': WHATEVER THE INPUT: true; the input reads as it did. -/
def pokerValuesSpec : ChangeSpec := { name := "pokerValues", fn := fun _ => fun
  | [d1, d2] => { results := [.lit (.bool true)], args := [d1, d2] }
  | _ => none }
def pokerValuesRow : OpenClaim := { program := "ytdhacmcdbpojlaa", sum := "239787e4b7440d7ba171047d8fc99bf2ab1cd277d0073544a54049512dc35f32", func := "gameroom/gameroomlaw.PokerValues", spec := "pokerValues", unfollowed := true, recurses := true, apart := false }
def PokerValuesSaid : Prop := pokerValuesRow.holds Try.pinned (OpenSpec.ofChange pokerValuesSpec)

/-- ITS FALSE NEIGHBOUR: 'it returns false'. Refute it at one input. -/
def pokerValuesWrong : ChangeSpec := { name := "pokerValues", fn := fun _ => fun
  | [d1, d2] => { results := [.lit (.bool false)], args := [d1, d2] }
  | _ => none }
def PokerValuesWrongFalsely : Prop := pokerValuesRow.holds Try.pinned (OpenSpec.ofChange pokerValuesWrong)

/-- 'gameroomlaw.PokerCounts': WHATEVER THE INPUT: true; the input reads as it did. -/
def pokerCountsSpec : ChangeSpec := { name := "pokerCounts", fn := fun _ => fun
  | [d] => { results := [.lit (.bool true)], args := [d] }
  | _ => none }
def pokerCountsRow : OpenClaim := { program := "ytdhacmcdbpojlaa", sum := "239787e4b7440d7ba171047d8fc99bf2ab1cd277d0073544a54049512dc35f32", func := "gameroom/gameroomlaw.PokerCounts", spec := "pokerCounts", unfollowed := true, recurses := true, apart := false }
def PokerCountsSaid : Prop := pokerCountsRow.holds Try.pinned (OpenSpec.ofChange pokerCountsSpec)

/-- ITS FALSE NEIGHBOUR: 'it returns false'. Refute it at one input. -/
def pokerCountsWrong : ChangeSpec := { name := "pokerCounts", fn := fun _ => fun
  | [d] => { results := [.lit (.bool false)], args := [d] }
  | _ => none }
def PokerCountsWrongFalsely : Prop := pokerCountsRow.holds Try.pinned (OpenSpec.ofChange pokerCountsWrong)

/-- 'gameroomlaw.PokerShowdowns': WHATEVER THE INPUT: true; the input reads as it did. -/
def pokerShowdownsSpec : ChangeSpec := { name := "pokerShowdowns", fn := fun _ => fun
  | [d1, d2, d3] => { results := [.lit (.bool true)], args := [d1, d2, d3] }
  | _ => none }
def pokerShowdownsRow : OpenClaim := { program := "ytdhacmcdbpojlaa", sum := "239787e4b7440d7ba171047d8fc99bf2ab1cd277d0073544a54049512dc35f32", func := "gameroom/gameroomlaw.PokerShowdowns", spec := "pokerShowdowns", unfollowed := true, recurses := true, apart := false }
def PokerShowdownsSaid : Prop := pokerShowdownsRow.holds Try.pinned (OpenSpec.ofChange pokerShowdownsSpec)

/-- ITS FALSE NEIGHBOUR: 'it returns false'. Refute it at one input. -/
def pokerShowdownsWrong : ChangeSpec := { name := "pokerShowdowns", fn := fun _ => fun
  | [d1, d2, d3] => { results := [.lit (.bool false)], args := [d1, d2, d3] }
  | _ => none }
def PokerShowdownsWrongFalsely : Prop := pokerShowdownsRow.holds Try.pinned (OpenSpec.ofChange pokerShowdownsWrong)

/-- 'gameroomkeep.PokerSuits': WHATEVER THE INPUT: true; the input reads as it did. -/
def pokerSuitsSpec : ChangeSpec := { name := "pokerSuits", fn := fun _ => fun
  | [d1, d2, d3] => { results := [.lit (.bool true)], args := [d1, d2, d3] }
  | _ => none }
def pokerSuitsRow : OpenClaim := { program := "ytdhacmcdbpojlaa", sum := "239787e4b7440d7ba171047d8fc99bf2ab1cd277d0073544a54049512dc35f32", func := "gameroom/gameroomkeep.PokerSuits", spec := "pokerSuits", unfollowed := true, recurses := true, apart := false }
def PokerSuitsSaid : Prop := pokerSuitsRow.holds Try.pinned (OpenSpec.ofChange pokerSuitsSpec)

/-- ITS FALSE NEIGHBOUR: 'it returns false'. Refute it at one input. -/
def pokerSuitsWrong : ChangeSpec := { name := "pokerSuits", fn := fun _ => fun
  | [d1, d2, d3] => { results := [.lit (.bool false)], args := [d1, d2, d3] }
  | _ => none }
def PokerSuitsWrongFalsely : Prop := pokerSuitsRow.holds Try.pinned (OpenSpec.ofChange pokerSuitsWrong)

/-- 'gameroomkeep.PokerDuels': WHATEVER THE INPUT: true; the input reads as it did. -/
def pokerDuelsSpec : ChangeSpec := { name := "pokerDuels", fn := fun _ => fun
  | [d1, d2] => { results := [.lit (.bool true)], args := [d1, d2] }
  | _ => none }
def pokerDuelsRow : OpenClaim := { program := "ytdhacmcdbpojlaa", sum := "239787e4b7440d7ba171047d8fc99bf2ab1cd277d0073544a54049512dc35f32", func := "gameroom/gameroomkeep.PokerDuels", spec := "pokerDuels", unfollowed := true, recurses := true, apart := false }
def PokerDuelsSaid : Prop := pokerDuelsRow.holds Try.pinned (OpenSpec.ofChange pokerDuelsSpec)

/-- ITS FALSE NEIGHBOUR: 'it returns false'. Refute it at one input. -/
def pokerDuelsWrong : ChangeSpec := { name := "pokerDuels", fn := fun _ => fun
  | [d1, d2] => { results := [.lit (.bool false)], args := [d1, d2] }
  | _ => none }
def PokerDuelsWrongFalsely : Prop := pokerDuelsRow.holds Try.pinned (OpenSpec.ofChange pokerDuelsWrong)

/- THE SECOND FORM. 'bulk': how many values and letters a reading holds, each counted each time it is reached (what is shared counts as often as it is met; a slice's spare places count too). A statement '..UptoSaid' is the law's where the arguments, and the package variables that the reading takes, are together of bulk at most 1048576: NARROWER than '..Said'. Prove '..Said' where nothing that the law and all that it calls make is longer than what came in: it says more and counts as full. Else prove '..UptoSaid'. A law counts once. -/
mutual
def uptoBulk {H : Type} : DataW H → Nat
  | .lit (.string bytes) => bytes.length + 1
  | .lit _ => 1
  | .nil => 1
  | .ptr d => uptoBulk d + 1
  | .slice elems spare => uptoBulkAll elems + uptoBulkAll spare + 1
  | .agg parts => uptoBulkAll parts + 1
  | .iface _ d => uptoBulk d + 1
  | .map entries => uptoBulkEntries entries + 1
  | .held _ => 1
def uptoBulkAll {H : Type} : List (DataW H) → Nat
  | [] => 0
  | d :: r => uptoBulk d + uptoBulkAll r
def uptoBulkEntries {H : Type} : List (Lit × DataW H) → Nat
  | [] => 0
  | x :: r => uptoBulkEntry x + uptoBulkEntries r
def uptoBulkEntry {H : Type} : Lit × DataW H → Nat
  | (.string bytes, d) => bytes.length + uptoBulk d + 1
  | (_, d) => uptoBulk d + 1
 end
def uptoSmall : (H : Type) → List (DataW H) → Bool := fun _ ds => decide (uptoBulkAll ds ≤ 1048576)
def OpenSpec.upto (s : _root_.Go.ChangeSpec) : _root_.Go.OpenSpec := { _root_.Go.OpenSpec.ofChange s with cond := some uptoSmall }

/-- 'gameroomlaw.PokerValues', WHERE WHAT IT READS IS OF BULK AT MOST 1048576: true; the input reads as it did. -/
def pokerValuesUptoRow : OpenClaim := { program := "ytdhacmcdbpojlaa", sum := "239787e4b7440d7ba171047d8fc99bf2ab1cd277d0073544a54049512dc35f32", func := "gameroom/gameroomlaw.PokerValues", spec := "pokerValues", unfollowed := true, recurses := true, apart := false, narrowed := true }
def PokerValuesUptoSaid : Prop := pokerValuesUptoRow.holds Try.pinned (OpenSpec.upto pokerValuesSpec)

/-- 'gameroomlaw.PokerCounts', WHERE WHAT IT READS IS OF BULK AT MOST 1048576: true; the input reads as it did. -/
def pokerCountsUptoRow : OpenClaim := { program := "ytdhacmcdbpojlaa", sum := "239787e4b7440d7ba171047d8fc99bf2ab1cd277d0073544a54049512dc35f32", func := "gameroom/gameroomlaw.PokerCounts", spec := "pokerCounts", unfollowed := true, recurses := true, apart := false, narrowed := true }
def PokerCountsUptoSaid : Prop := pokerCountsUptoRow.holds Try.pinned (OpenSpec.upto pokerCountsSpec)

/-- 'gameroomlaw.PokerShowdowns', WHERE WHAT IT READS IS OF BULK AT MOST 1048576: true; the input reads as it did. -/
def pokerShowdownsUptoRow : OpenClaim := { program := "ytdhacmcdbpojlaa", sum := "239787e4b7440d7ba171047d8fc99bf2ab1cd277d0073544a54049512dc35f32", func := "gameroom/gameroomlaw.PokerShowdowns", spec := "pokerShowdowns", unfollowed := true, recurses := true, apart := false, narrowed := true }
def PokerShowdownsUptoSaid : Prop := pokerShowdownsUptoRow.holds Try.pinned (OpenSpec.upto pokerShowdownsSpec)

/-- 'gameroomkeep.PokerSuits', WHERE WHAT IT READS IS OF BULK AT MOST 1048576: true; the input reads as it did. -/
def pokerSuitsUptoRow : OpenClaim := { program := "ytdhacmcdbpojlaa", sum := "239787e4b7440d7ba171047d8fc99bf2ab1cd277d0073544a54049512dc35f32", func := "gameroom/gameroomkeep.PokerSuits", spec := "pokerSuits", unfollowed := true, recurses := true, apart := false, narrowed := true }
def PokerSuitsUptoSaid : Prop := pokerSuitsUptoRow.holds Try.pinned (OpenSpec.upto pokerSuitsSpec)

/-- 'gameroomkeep.PokerDuels', WHERE WHAT IT READS IS OF BULK AT MOST 1048576: true; the input reads as it did. -/
def pokerDuelsUptoRow : OpenClaim := { program := "ytdhacmcdbpojlaa", sum := "239787e4b7440d7ba171047d8fc99bf2ab1cd277d0073544a54049512dc35f32", func := "gameroom/gameroomkeep.PokerDuels", spec := "pokerDuels", unfollowed := true, recurses := true, apart := false, narrowed := true }
def PokerDuelsUptoSaid : Prop := pokerDuelsUptoRow.holds Try.pinned (OpenSpec.upto pokerDuelsSpec)

end Rows
end Go.Proofs.Ytdhacmcdbpojlaa
