/-
  No cell of these rows narrows 'for every input' (looked for: loops, veiled, ifaces, maps, wideKeys, modest, calm, conditions, laid).
  DERIVED. THE GIVEN ROWS OF THIS SEAT. 5 by the template 'for every input the law returns true; each argument reads behind the call as it read before'; 0 by the template 'total and deterministic' (their statements: YtmboikpcbkiepaaTotals.lean).
  GIVEN WITH THE SEED: the statements are not yours to turn. If you find one false, say at which input.
  Laid BY PROGRAM, IN A SANDBOX (cutbox-rows.mjs): the forced cells as the released guide's own fill.sh prints them over the translation de9269311fc89b13… (all of the seat's roots in one cut). By AI agents, Wed Nov 11 2026. No macro, syntax, notation, axiom, sorry.
-/
import Derived.Test.YtmboikpcbkiepaaChecked
import GoSem.Claim
import GoSem.ClaimJoined
import GoSem.ClaimMapViews
import Derived.JoinedTies
import Derived.KernelRfl
namespace Go.Proofs.Ytmboikpcbkiepaa
/- THE CELL 'sum', in the pinned program and in every row, IS THE sha256 OF THE DUMP (.gsa) THAT YtmboikpcbkiepaaProg.lean LOADS. Nothing in Lean hashes anything: it is a label: what it is worth is what the hold of that sum in a sandbox is worth. -/
noncomputable def Try.pinned : Pinned := { name := "ytmboikpcbkiepaa", sum := "de9269311fc89b13a1574d99ef7b6cdc8333b583f72cf2f2511f99e2b756d185", checked := Try.checked }
namespace Rows
def none {H : Type} : Left H := { results := [], args := [] }

/-- 'gameroomlaw.GammonSteps': WHATEVER THE INPUT: true; the input reads as it did. -/
def gammonStepsSpec : ChangeSpec := { name := "gammonSteps", fn := fun _ => fun
  | [d1, d2, d3] => { results := [.lit (.bool true)], args := [d1, d2, d3] }
  | _ => none }
def gammonStepsRow : OpenClaim := { program := "ytmboikpcbkiepaa", sum := "de9269311fc89b13a1574d99ef7b6cdc8333b583f72cf2f2511f99e2b756d185", func := "gameroom/gameroomlaw.GammonSteps", spec := "gammonSteps", plainKeys := false, apart := false }
def GammonStepsSaid : Prop := gammonStepsRow.holds Try.pinned (OpenSpec.ofChange gammonStepsSpec)

/-- ITS FALSE NEIGHBOUR: 'it returns false'. Refute it at one input. -/
def gammonStepsWrong : ChangeSpec := { name := "gammonSteps", fn := fun _ => fun
  | [d1, d2, d3] => { results := [.lit (.bool false)], args := [d1, d2, d3] }
  | _ => none }
def GammonStepsWrongFalsely : Prop := gammonStepsRow.holds Try.pinned (OpenSpec.ofChange gammonStepsWrong)

/-- 'gameroomlaw.GammonMoves': WHATEVER THE INPUT: true; the input reads as it did. -/
def gammonMovesSpec : ChangeSpec := { name := "gammonMoves", fn := fun _ => fun
  | [d1, d2, d3] => { results := [.lit (.bool true)], args := [d1, d2, d3] }
  | _ => none }
def gammonMovesRow : OpenClaim := { program := "ytmboikpcbkiepaa", sum := "de9269311fc89b13a1574d99ef7b6cdc8333b583f72cf2f2511f99e2b756d185", func := "gameroom/gameroomlaw.GammonMoves", spec := "gammonMoves", unfollowed := true, recurses := true, plainKeys := false, apart := false }
def GammonMovesSaid : Prop := gammonMovesRow.holds Try.pinned (OpenSpec.ofChange gammonMovesSpec)

/-- ITS FALSE NEIGHBOUR: 'it returns false'. Refute it at one input. -/
def gammonMovesWrong : ChangeSpec := { name := "gammonMoves", fn := fun _ => fun
  | [d1, d2, d3] => { results := [.lit (.bool false)], args := [d1, d2, d3] }
  | _ => none }
def GammonMovesWrongFalsely : Prop := gammonMovesRow.holds Try.pinned (OpenSpec.ofChange gammonMovesWrong)

/-- 'gameroomlaw.GammonRolls': WHATEVER THE INPUT: true; the input reads as it did. -/
def gammonRollsSpec : ChangeSpec := { name := "gammonRolls", fn := fun _ => fun
  | [d] => { results := [.lit (.bool true)], args := [d] }
  | _ => none }
def gammonRollsRow : OpenClaim := { program := "ytmboikpcbkiepaa", sum := "de9269311fc89b13a1574d99ef7b6cdc8333b583f72cf2f2511f99e2b756d185", func := "gameroom/gameroomlaw.GammonRolls", spec := "gammonRolls", unfollowed := true, recurses := true, plainKeys := false, apart := false }
def GammonRollsSaid : Prop := gammonRollsRow.holds Try.pinned (OpenSpec.ofChange gammonRollsSpec)

/-- ITS FALSE NEIGHBOUR: 'it returns false'. Refute it at one input. -/
def gammonRollsWrong : ChangeSpec := { name := "gammonRolls", fn := fun _ => fun
  | [d] => { results := [.lit (.bool false)], args := [d] }
  | _ => none }
def GammonRollsWrongFalsely : Prop := gammonRollsRow.holds Try.pinned (OpenSpec.ofChange gammonRollsWrong)

/-- 'gameroomkeep.GammonMen': WHATEVER THE INPUT: true; the input reads as it did. -/
def gammonMenSpec : ChangeSpec := { name := "gammonMen", fn := fun _ => fun
  | [d1, d2, d3] => { results := [.lit (.bool true)], args := [d1, d2, d3] }
  | _ => none }
def gammonMenRow : OpenClaim := { program := "ytmboikpcbkiepaa", sum := "de9269311fc89b13a1574d99ef7b6cdc8333b583f72cf2f2511f99e2b756d185", func := "gameroom/gameroomkeep.GammonMen", spec := "gammonMen", unfollowed := true, recurses := true, plainKeys := false, apart := false }
def GammonMenSaid : Prop := gammonMenRow.holds Try.pinned (OpenSpec.ofChange gammonMenSpec)

/-- ITS FALSE NEIGHBOUR: 'it returns false'. Refute it at one input. -/
def gammonMenWrong : ChangeSpec := { name := "gammonMen", fn := fun _ => fun
  | [d1, d2, d3] => { results := [.lit (.bool false)], args := [d1, d2, d3] }
  | _ => none }
def GammonMenWrongFalsely : Prop := gammonMenRow.holds Try.pinned (OpenSpec.ofChange gammonMenWrong)

/-- 'gameroomkeep.GammonThrows': WHATEVER THE INPUT: true; the input reads as it did. -/
def gammonThrowsSpec : ChangeSpec := { name := "gammonThrows", fn := fun _ => fun
  | [d1, d2] => { results := [.lit (.bool true)], args := [d1, d2] }
  | _ => none }
def gammonThrowsRow : OpenClaim := { program := "ytmboikpcbkiepaa", sum := "de9269311fc89b13a1574d99ef7b6cdc8333b583f72cf2f2511f99e2b756d185", func := "gameroom/gameroomkeep.GammonThrows", spec := "gammonThrows", unfollowed := true, recurses := true, plainKeys := false, apart := false }
def GammonThrowsSaid : Prop := gammonThrowsRow.holds Try.pinned (OpenSpec.ofChange gammonThrowsSpec)

/-- ITS FALSE NEIGHBOUR: 'it returns false'. Refute it at one input. -/
def gammonThrowsWrong : ChangeSpec := { name := "gammonThrows", fn := fun _ => fun
  | [d1, d2] => { results := [.lit (.bool false)], args := [d1, d2] }
  | _ => none }
def GammonThrowsWrongFalsely : Prop := gammonThrowsRow.holds Try.pinned (OpenSpec.ofChange gammonThrowsWrong)

/- THE SECOND FORM. 'bulk': how many values and letters a reading holds, each counted each time it is reached (what is shared counts as often as it is met; a slice's spare places count too). A statement '..UptoSaid' is the law's where the arguments, and the package variables that the reading takes, are together of bulk at most 1048576: NARROWER than '..Said'. Prove '..Said' where nothing that the law and all that it calls make is longer than what came in: it says more and counts as full. Else prove '..UptoSaid'. A law counts once. -/
mutual
def uptoBulk {H : Type} : DataW H → Nat
  | .lit (.string bytes) => bytes.length + 1
  | .lit _ => 1
  | .nil => 1
  | .ptr d => uptoBulk d + 1
  | .slice elems spare => uptoBulkAll elems + uptoBulkAll spare + 1
  | .agg parts => uptoBulkAll parts + 1
  | .iface _ d => uptoBulk d + 1
  | .map entries => uptoBulkEntries entries + 1
  | .held _ => 1
def uptoBulkAll {H : Type} : List (DataW H) → Nat
  | [] => 0
  | d :: r => uptoBulk d + uptoBulkAll r
def uptoBulkEntries {H : Type} : List (Lit × DataW H) → Nat
  | [] => 0
  | x :: r => uptoBulkEntry x + uptoBulkEntries r
def uptoBulkEntry {H : Type} : Lit × DataW H → Nat
  | (.string bytes, d) => bytes.length + uptoBulk d + 1
  | (_, d) => uptoBulk d + 1
 end
def uptoSmall : (H : Type) → List (DataW H) → Bool := fun _ ds => decide (uptoBulkAll ds ≤ 1048576)
def OpenSpec.upto (s : _root_.Go.ChangeSpec) : _root_.Go.OpenSpec := { _root_.Go.OpenSpec.ofChange s with cond := some uptoSmall }

/-- 'gameroomlaw.GammonSteps', WHERE WHAT IT READS IS OF BULK AT MOST 1048576: true; the input reads as it did. -/
def gammonStepsUptoRow : OpenClaim := { program := "ytmboikpcbkiepaa", sum := "de9269311fc89b13a1574d99ef7b6cdc8333b583f72cf2f2511f99e2b756d185", func := "gameroom/gameroomlaw.GammonSteps", spec := "gammonSteps", plainKeys := false, apart := false, narrowed := true }
def GammonStepsUptoSaid : Prop := gammonStepsUptoRow.holds Try.pinned (OpenSpec.upto gammonStepsSpec)

/-- 'gameroomlaw.GammonMoves', WHERE WHAT IT READS IS OF BULK AT MOST 1048576: true; the input reads as it did. -/
def gammonMovesUptoRow : OpenClaim := { program := "ytmboikpcbkiepaa", sum := "de9269311fc89b13a1574d99ef7b6cdc8333b583f72cf2f2511f99e2b756d185", func := "gameroom/gameroomlaw.GammonMoves", spec := "gammonMoves", unfollowed := true, recurses := true, plainKeys := false, apart := false, narrowed := true }
def GammonMovesUptoSaid : Prop := gammonMovesUptoRow.holds Try.pinned (OpenSpec.upto gammonMovesSpec)

/-- 'gameroomlaw.GammonRolls', WHERE WHAT IT READS IS OF BULK AT MOST 1048576: true; the input reads as it did. -/
def gammonRollsUptoRow : OpenClaim := { program := "ytmboikpcbkiepaa", sum := "de9269311fc89b13a1574d99ef7b6cdc8333b583f72cf2f2511f99e2b756d185", func := "gameroom/gameroomlaw.GammonRolls", spec := "gammonRolls", unfollowed := true, recurses := true, plainKeys := false, apart := false, narrowed := true }
def GammonRollsUptoSaid : Prop := gammonRollsUptoRow.holds Try.pinned (OpenSpec.upto gammonRollsSpec)

/-- 'gameroomkeep.GammonMen', WHERE WHAT IT READS IS OF BULK AT MOST 1048576: true; the input reads as it did. -/
def gammonMenUptoRow : OpenClaim := { program := "ytmboikpcbkiepaa", sum := "de9269311fc89b13a1574d99ef7b6cdc8333b583f72cf2f2511f99e2b756d185", func := "gameroom/gameroomkeep.GammonMen", spec := "gammonMen", unfollowed := true, recurses := true, plainKeys := false, apart := false, narrowed := true }
def GammonMenUptoSaid : Prop := gammonMenUptoRow.holds Try.pinned (OpenSpec.upto gammonMenSpec)

/-- 'gameroomkeep.GammonThrows', WHERE WHAT IT READS IS OF BULK AT MOST 1048576: true; the input reads as it did. -/
def gammonThrowsUptoRow : OpenClaim := { program := "ytmboikpcbkiepaa", sum := "de9269311fc89b13a1574d99ef7b6cdc8333b583f72cf2f2511f99e2b756d185", func := "gameroom/gameroomkeep.GammonThrows", spec := "gammonThrows", unfollowed := true, recurses := true, plainKeys := false, apart := false, narrowed := true }
def GammonThrowsUptoSaid : Prop := gammonThrowsUptoRow.holds Try.pinned (OpenSpec.upto gammonThrowsSpec)

end Rows
end Go.Proofs.Ytmboikpcbkiepaa
