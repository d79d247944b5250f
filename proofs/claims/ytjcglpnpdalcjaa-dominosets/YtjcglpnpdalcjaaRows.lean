/-
  No cell of these rows narrows 'for every input' (looked for: loops, veiled, ifaces, maps, wideKeys, modest, calm, conditions, laid).
  DERIVED. THE GIVEN ROWS OF THIS SEAT. 5 by the template 'for every input the law returns true; each argument reads behind the call as it read before'; 0 by the template 'total and deterministic' (their statements: YtjcglpnpdalcjaaTotals.lean).
  GIVEN WITH THE SEED: the statements are not yours to turn. If you find one false, say at which input.
  Laid BY PROGRAM, IN A SANDBOX (cutbox-rows.mjs): the forced cells as the released guide's own fill.sh prints them over the translation d3756d63cb5df189… (all of the seat's roots in one cut). By AI agents, Wed Nov 11 2026. No macro, syntax, notation, axiom, sorry.
-/
import Derived.Test.YtjcglpnpdalcjaaChecked
import GoSem.Claim
import GoSem.ClaimJoined
import GoSem.ClaimMapViews
import Derived.JoinedTies
import Derived.KernelRfl
namespace Go.Proofs.Ytjcglpnpdalcjaa
/- THE CELL 'sum', in the pinned program and in every row, IS THE sha256 OF THE DUMP (.gsa) THAT YtjcglpnpdalcjaaProg.lean LOADS. Nothing in Lean hashes anything: it is a label: what it is worth is what the hold of that sum in a sandbox is worth. -/
noncomputable def Try.pinned : Pinned := { name := "ytjcglpnpdalcjaa", sum := "d3756d63cb5df189c274424d872ca5ebd10a0ac196ab5a5fb28111610cde0130", checked := Try.checked }
namespace Rows
def none {H : Type} : Left H := { results := [], args := [] }

/-- 'gameroomlaw.DominoSets': WHATEVER THE INPUT: true; the input reads as it did. -/
def dominoSetsSpec : ChangeSpec := { name := "dominoSets", fn := fun _ => fun
  | [d1, d2] => { results := [.lit (.bool true)], args := [d1, d2] }
  | _ => none }
def dominoSetsRow : OpenClaim := { program := "ytjcglpnpdalcjaa", sum := "d3756d63cb5df189c274424d872ca5ebd10a0ac196ab5a5fb28111610cde0130", func := "gameroom/gameroomlaw.DominoSets", spec := "dominoSets", unfollowed := true, recurses := true, plainKeys := false, apart := false }
def DominoSetsSaid : Prop := dominoSetsRow.holds Try.pinned (OpenSpec.ofChange dominoSetsSpec)

/-- ITS FALSE NEIGHBOUR: 'it returns false'. Refute it at one input. -/
def dominoSetsWrong : ChangeSpec := { name := "dominoSets", fn := fun _ => fun
  | [d1, d2] => { results := [.lit (.bool false)], args := [d1, d2] }
  | _ => none }
def DominoSetsWrongFalsely : Prop := dominoSetsRow.holds Try.pinned (OpenSpec.ofChange dominoSetsWrong)

/-- 'gameroomlaw.DominoRows': WHATEVER THE INPUT: true; the input reads as it did. -/
def dominoRowsSpec : ChangeSpec := { name := "dominoRows", fn := fun _ => fun
  | [d] => { results := [.lit (.bool true)], args := [d] }
  | _ => none }
def dominoRowsRow : OpenClaim := { program := "ytjcglpnpdalcjaa", sum := "d3756d63cb5df189c274424d872ca5ebd10a0ac196ab5a5fb28111610cde0130", func := "gameroom/gameroomlaw.DominoRows", spec := "dominoRows", unfollowed := true, recurses := true, plainKeys := false, apart := false }
def DominoRowsSaid : Prop := dominoRowsRow.holds Try.pinned (OpenSpec.ofChange dominoRowsSpec)

/-- ITS FALSE NEIGHBOUR: 'it returns false'. Refute it at one input. -/
def dominoRowsWrong : ChangeSpec := { name := "dominoRows", fn := fun _ => fun
  | [d] => { results := [.lit (.bool false)], args := [d] }
  | _ => none }
def DominoRowsWrongFalsely : Prop := dominoRowsRow.holds Try.pinned (OpenSpec.ofChange dominoRowsWrong)

/-- 'gameroomlaw.DominoPlays': WHATEVER THE INPUT: true; the input reads as it did. -/
def dominoPlaysSpec : ChangeSpec := { name := "dominoPlays", fn := fun _ => fun
  | [d1, d2, d3] => { results := [.lit (.bool true)], args := [d1, d2, d3] }
  | _ => none }
def dominoPlaysRow : OpenClaim := { program := "ytjcglpnpdalcjaa", sum := "d3756d63cb5df189c274424d872ca5ebd10a0ac196ab5a5fb28111610cde0130", func := "gameroom/gameroomlaw.DominoPlays", spec := "dominoPlays", unfollowed := true, recurses := true, plainKeys := false, apart := false }
def DominoPlaysSaid : Prop := dominoPlaysRow.holds Try.pinned (OpenSpec.ofChange dominoPlaysSpec)

/-- ITS FALSE NEIGHBOUR: 'it returns false'. Refute it at one input. -/
def dominoPlaysWrong : ChangeSpec := { name := "dominoPlays", fn := fun _ => fun
  | [d1, d2, d3] => { results := [.lit (.bool false)], args := [d1, d2, d3] }
  | _ => none }
def DominoPlaysWrongFalsely : Prop := dominoPlaysRow.holds Try.pinned (OpenSpec.ofChange dominoPlaysWrong)

/-- 'gameroomkeep.DominoEuler': WHATEVER THE INPUT: true; the input reads as it did. -/
def dominoEulerSpec : ChangeSpec := { name := "dominoEuler", fn := fun _ => fun
  | [d1, d2] => { results := [.lit (.bool true)], args := [d1, d2] }
  | _ => none }
def dominoEulerRow : OpenClaim := { program := "ytjcglpnpdalcjaa", sum := "d3756d63cb5df189c274424d872ca5ebd10a0ac196ab5a5fb28111610cde0130", func := "gameroom/gameroomkeep.DominoEuler", spec := "dominoEuler", unfollowed := true, recurses := true, plainKeys := false, apart := false }
def DominoEulerSaid : Prop := dominoEulerRow.holds Try.pinned (OpenSpec.ofChange dominoEulerSpec)

/-- ITS FALSE NEIGHBOUR: 'it returns false'. Refute it at one input. -/
def dominoEulerWrong : ChangeSpec := { name := "dominoEuler", fn := fun _ => fun
  | [d1, d2] => { results := [.lit (.bool false)], args := [d1, d2] }
  | _ => none }
def DominoEulerWrongFalsely : Prop := dominoEulerRow.holds Try.pinned (OpenSpec.ofChange dominoEulerWrong)

/-- 'gameroomkeep.DominoGrows': WHATEVER THE INPUT: true; the input reads as it did. -/
def dominoGrowsSpec : ChangeSpec := { name := "dominoGrows", fn := fun _ => fun
  | [d] => { results := [.lit (.bool true)], args := [d] }
  | _ => none }
def dominoGrowsRow : OpenClaim := { program := "ytjcglpnpdalcjaa", sum := "d3756d63cb5df189c274424d872ca5ebd10a0ac196ab5a5fb28111610cde0130", func := "gameroom/gameroomkeep.DominoGrows", spec := "dominoGrows", unfollowed := true, recurses := true, plainKeys := false, apart := false }
def DominoGrowsSaid : Prop := dominoGrowsRow.holds Try.pinned (OpenSpec.ofChange dominoGrowsSpec)

/-- ITS FALSE NEIGHBOUR: 'it returns false'. Refute it at one input. -/
def dominoGrowsWrong : ChangeSpec := { name := "dominoGrows", fn := fun _ => fun
  | [d] => { results := [.lit (.bool false)], args := [d] }
  | _ => none }
def DominoGrowsWrongFalsely : Prop := dominoGrowsRow.holds Try.pinned (OpenSpec.ofChange dominoGrowsWrong)

/- THE SECOND FORM. 'bulk': how many values and letters a reading holds, each counted each time it is reached (what is shared counts as often as it is met; a slice's spare places count too). A statement '..UptoSaid' is the law's where the arguments, and the package variables that the reading takes, are together of bulk at most 1048576: NARROWER than '..Said'. Prove '..Said' where nothing that the law and all that it calls make is longer than what came in: it says more and counts as full. Else prove '..UptoSaid'. A law counts once. -/
mutual
def uptoBulk {H : Type} : DataW H → Nat
  | .lit (.string bytes) => bytes.length + 1
  | .lit _ => 1
  | .nil => 1
  | .ptr d => uptoBulk d + 1
  | .slice elems spare => uptoBulkAll elems + uptoBulkAll spare + 1
  | .agg parts => uptoBulkAll parts + 1
  | .iface _ d => uptoBulk d + 1
  | .map entries => uptoBulkEntries entries + 1
  | .held _ => 1
def uptoBulkAll {H : Type} : List (DataW H) → Nat
  | [] => 0
  | d :: r => uptoBulk d + uptoBulkAll r
def uptoBulkEntries {H : Type} : List (Lit × DataW H) → Nat
  | [] => 0
  | x :: r => uptoBulkEntry x + uptoBulkEntries r
def uptoBulkEntry {H : Type} : Lit × DataW H → Nat
  | (.string bytes, d) => bytes.length + uptoBulk d + 1
  | (_, d) => uptoBulk d + 1
 end
def uptoSmall : (H : Type) → List (DataW H) → Bool := fun _ ds => decide (uptoBulkAll ds ≤ 1048576)
def OpenSpec.upto (s : _root_.Go.ChangeSpec) : _root_.Go.OpenSpec := { _root_.Go.OpenSpec.ofChange s with cond := some uptoSmall }

/-- 'gameroomlaw.DominoSets', WHERE WHAT IT READS IS OF BULK AT MOST 1048576: true; the input reads as it did. -/
def dominoSetsUptoRow : OpenClaim := { program := "ytjcglpnpdalcjaa", sum := "d3756d63cb5df189c274424d872ca5ebd10a0ac196ab5a5fb28111610cde0130", func := "gameroom/gameroomlaw.DominoSets", spec := "dominoSets", unfollowed := true, recurses := true, plainKeys := false, apart := false, narrowed := true }
def DominoSetsUptoSaid : Prop := dominoSetsUptoRow.holds Try.pinned (OpenSpec.upto dominoSetsSpec)

/-- 'gameroomlaw.DominoRows', WHERE WHAT IT READS IS OF BULK AT MOST 1048576: true; the input reads as it did. -/
def dominoRowsUptoRow : OpenClaim := { program := "ytjcglpnpdalcjaa", sum := "d3756d63cb5df189c274424d872ca5ebd10a0ac196ab5a5fb28111610cde0130", func := "gameroom/gameroomlaw.DominoRows", spec := "dominoRows", unfollowed := true, recurses := true, plainKeys := false, apart := false, narrowed := true }
def DominoRowsUptoSaid : Prop := dominoRowsUptoRow.holds Try.pinned (OpenSpec.upto dominoRowsSpec)

/-- 'gameroomlaw.DominoPlays', WHERE WHAT IT READS IS OF BULK AT MOST 1048576: true; the input reads as it did. -/
def dominoPlaysUptoRow : OpenClaim := { program := "ytjcglpnpdalcjaa", sum := "d3756d63cb5df189c274424d872ca5ebd10a0ac196ab5a5fb28111610cde0130", func := "gameroom/gameroomlaw.DominoPlays", spec := "dominoPlays", unfollowed := true, recurses := true, plainKeys := false, apart := false, narrowed := true }
def DominoPlaysUptoSaid : Prop := dominoPlaysUptoRow.holds Try.pinned (OpenSpec.upto dominoPlaysSpec)

/-- 'gameroomkeep.DominoEuler', WHERE WHAT IT READS IS OF BULK AT MOST 1048576: true; the input reads as it did. -/
def dominoEulerUptoRow : OpenClaim := { program := "ytjcglpnpdalcjaa", sum := "d3756d63cb5df189c274424d872ca5ebd10a0ac196ab5a5fb28111610cde0130", func := "gameroom/gameroomkeep.DominoEuler", spec := "dominoEuler", unfollowed := true, recurses := true, plainKeys := false, apart := false, narrowed := true }
def DominoEulerUptoSaid : Prop := dominoEulerUptoRow.holds Try.pinned (OpenSpec.upto dominoEulerSpec)

/-- 'gameroomkeep.DominoGrows', WHERE WHAT IT READS IS OF BULK AT MOST 1048576: true; the input reads as it did. -/
def dominoGrowsUptoRow : OpenClaim := { program := "ytjcglpnpdalcjaa", sum := "d3756d63cb5df189c274424d872ca5ebd10a0ac196ab5a5fb28111610cde0130", func := "gameroom/gameroomkeep.DominoGrows", spec := "dominoGrows", unfollowed := true, recurses := true, plainKeys := false, apart := false, narrowed := true }
def DominoGrowsUptoSaid : Prop := dominoGrowsUptoRow.holds Try.pinned (OpenSpec.upto dominoGrowsSpec)

end Rows
end Go.Proofs.Ytjcglpnpdalcjaa
