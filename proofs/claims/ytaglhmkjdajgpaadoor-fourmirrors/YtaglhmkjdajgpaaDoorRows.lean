/-
  NARROWER THAN 'FOR EVERY INPUT', by the rows' own cells (each row's printed sentence says how): FourDrops: laid · FourBests: laid · FourCounts: laid · FourMirrors: laid · FourAdds: laid.
  DERIVED. THE GIVEN ROWS OF THIS SEAT. 5 by the template 'for every input the law returns true; each argument reads behind the call as it read before'; 0 by the template 'total and deterministic' (their statements: YtaglhmkjdajgpaaDoorTotals.lean).
  GIVEN WITH THE SEED: the statements are not yours to turn. If you find one false, say at which input.
  Laid BY PROGRAM, IN A SANDBOX (cutbox-rows.mjs): the forced cells as the released guide's own fill.sh prints them over the translation 0c350a5698b1a386… (all of the seat's roots in one cut). By AI agents, Wed Nov 11 2026. No macro, syntax, notation, axiom, sorry.
-/
import Derived.Test.YtaglhmkjdajgpaaDoorChecked
import GoSem.Claim
import GoSem.ClaimJoined
import GoSem.ClaimMapViews
import Derived.JoinedTies
import Derived.KernelRfl
namespace Go.Proofs.YtaglhmkjdajgpaaDoor
/- THE CELL 'sum', in the pinned program and in every row, IS THE sha256 OF THE DUMP (.gsa) THAT YtaglhmkjdajgpaaDoorProg.lean LOADS. Nothing in Lean hashes anything: it is a label: what it is worth is what the hold of that sum in a sandbox is worth. -/
noncomputable def Tryd.pinned : Pinned := { name := "ytaglhmkjdajgpaadoor", sum := "0c350a5698b1a386277c8ad30870f4a8e293d3f2a0147e5007594e634658fcfb", checked := Tryd.checked }
namespace Rows
def none {H : Type} : Left H := { results := [], args := [] }

/- WHAT THE LISTED PACKAGE-LEVEL VARIABLES READ AS WHEN THE CALL BEGINS. Each datum BY PROGRAM (the guide's laid-datum.mjs) off the statement by which the dump's own 'gosem.cut.vars' lays the variable. In a bare row this is a premise. The card (YtaglhmkjdajgpaaDoorCards.lean) ties it to the program's text. -/
def laid_gameroom_grids_directions {H : Type} : DataW H := .agg [.agg [.lit (.int .i64 1), .lit (.int .i64 0)], .agg [.lit (.int .i64 0), .lit (.int .i64 1)], .agg [.lit (.int .i64 1), .lit (.int .i64 1)], .agg [.lit (.int .i64 (-1)), .lit (.int .i64 1)]]

/-- 'gameroomlaw.FourDrops': WHATEVER THE INPUT: true; the input reads as it did. -/
def fourDropsSpec : ChangeSpec := { name := "fourDrops", fn := fun _ => fun
  | [d1, d2, d3, d4] => { results := [.lit (.bool true)], args := [d1, d2, d3, d4] }
  | _ => none }
def fourDropsRow : OpenClaim := { program := "ytaglhmkjdajgpaadoor", sum := "0c350a5698b1a386277c8ad30870f4a8e293d3f2a0147e5007594e634658fcfb", func := "gameroom/gameroomlaw.FourDrops", spec := "fourDrops", unfollowed := true, recurses := true, named := ["gameroom/grids.directions"], apart := false, laid := [("gameroom/grids.directions", laid_gameroom_grids_directions)] }
def FourDropsSaid : Prop := fourDropsRow.holds Tryd.pinned (OpenSpec.ofChange fourDropsSpec)

/-- ITS FALSE NEIGHBOUR: 'it returns false'. Refute it at one input. -/
def fourDropsWrong : ChangeSpec := { name := "fourDrops", fn := fun _ => fun
  | [d1, d2, d3, d4] => { results := [.lit (.bool false)], args := [d1, d2, d3, d4] }
  | _ => none }
def FourDropsWrongFalsely : Prop := fourDropsRow.holds Tryd.pinned (OpenSpec.ofChange fourDropsWrong)

/-- 'gameroomlaw.FourBests': WHATEVER THE INPUT: true; the input reads as it did. -/
def fourBestsSpec : ChangeSpec := { name := "fourBests", fn := fun _ => fun
  | [d1, d2, d3] => { results := [.lit (.bool true)], args := [d1, d2, d3] }
  | _ => none }
def fourBestsRow : OpenClaim := { program := "ytaglhmkjdajgpaadoor", sum := "0c350a5698b1a386277c8ad30870f4a8e293d3f2a0147e5007594e634658fcfb", func := "gameroom/gameroomlaw.FourBests", spec := "fourBests", unfollowed := true, recurses := true, named := ["gameroom/grids.directions"], apart := false, laid := [("gameroom/grids.directions", laid_gameroom_grids_directions)] }
def FourBestsSaid : Prop := fourBestsRow.holds Tryd.pinned (OpenSpec.ofChange fourBestsSpec)

/-- ITS FALSE NEIGHBOUR: 'it returns false'. Refute it at one input. -/
def fourBestsWrong : ChangeSpec := { name := "fourBests", fn := fun _ => fun
  | [d1, d2, d3] => { results := [.lit (.bool false)], args := [d1, d2, d3] }
  | _ => none }
def FourBestsWrongFalsely : Prop := fourBestsRow.holds Tryd.pinned (OpenSpec.ofChange fourBestsWrong)

/-- 'gameroomlaw.FourCounts': WHATEVER THE INPUT: true; the input reads as it did. -/
def fourCountsSpec : ChangeSpec := { name := "fourCounts", fn := fun _ => fun
  | [d1, d2, d3, d4] => { results := [.lit (.bool true)], args := [d1, d2, d3, d4] }
  | _ => none }
def fourCountsRow : OpenClaim := { program := "ytaglhmkjdajgpaadoor", sum := "0c350a5698b1a386277c8ad30870f4a8e293d3f2a0147e5007594e634658fcfb", func := "gameroom/gameroomlaw.FourCounts", spec := "fourCounts", unfollowed := true, recurses := true, named := ["gameroom/grids.directions"], apart := false, laid := [("gameroom/grids.directions", laid_gameroom_grids_directions)] }
def FourCountsSaid : Prop := fourCountsRow.holds Tryd.pinned (OpenSpec.ofChange fourCountsSpec)

/-- ITS FALSE NEIGHBOUR: 'it returns false'. Refute it at one input. -/
def fourCountsWrong : ChangeSpec := { name := "fourCounts", fn := fun _ => fun
  | [d1, d2, d3, d4] => { results := [.lit (.bool false)], args := [d1, d2, d3, d4] }
  | _ => none }
def FourCountsWrongFalsely : Prop := fourCountsRow.holds Tryd.pinned (OpenSpec.ofChange fourCountsWrong)

/-- 'gameroomkeep.FourMirrors': WHATEVER THE INPUT: true; the input reads as it did. -/
def fourMirrorsSpec : ChangeSpec := { name := "fourMirrors", fn := fun _ => fun
  | [d1, d2, d3] => { results := [.lit (.bool true)], args := [d1, d2, d3] }
  | _ => none }
def fourMirrorsRow : OpenClaim := { program := "ytaglhmkjdajgpaadoor", sum := "0c350a5698b1a386277c8ad30870f4a8e293d3f2a0147e5007594e634658fcfb", func := "gameroom/gameroomkeep.FourMirrors", spec := "fourMirrors", unfollowed := true, recurses := true, named := ["gameroom/grids.directions"], apart := false, laid := [("gameroom/grids.directions", laid_gameroom_grids_directions)] }
def FourMirrorsSaid : Prop := fourMirrorsRow.holds Tryd.pinned (OpenSpec.ofChange fourMirrorsSpec)

/-- ITS FALSE NEIGHBOUR: 'it returns false'. Refute it at one input. -/
def fourMirrorsWrong : ChangeSpec := { name := "fourMirrors", fn := fun _ => fun
  | [d1, d2, d3] => { results := [.lit (.bool false)], args := [d1, d2, d3] }
  | _ => none }
def FourMirrorsWrongFalsely : Prop := fourMirrorsRow.holds Tryd.pinned (OpenSpec.ofChange fourMirrorsWrong)

/-- 'gameroomkeep.FourAdds': WHATEVER THE INPUT: true; the input reads as it did. -/
def fourAddsSpec : ChangeSpec := { name := "fourAdds", fn := fun _ => fun
  | [d1, d2, d3] => { results := [.lit (.bool true)], args := [d1, d2, d3] }
  | _ => none }
def fourAddsRow : OpenClaim := { program := "ytaglhmkjdajgpaadoor", sum := "0c350a5698b1a386277c8ad30870f4a8e293d3f2a0147e5007594e634658fcfb", func := "gameroom/gameroomkeep.FourAdds", spec := "fourAdds", unfollowed := true, recurses := true, named := ["gameroom/grids.directions"], apart := false, laid := [("gameroom/grids.directions", laid_gameroom_grids_directions)] }
def FourAddsSaid : Prop := fourAddsRow.holds Tryd.pinned (OpenSpec.ofChange fourAddsSpec)

/-- ITS FALSE NEIGHBOUR: 'it returns false'. Refute it at one input. -/
def fourAddsWrong : ChangeSpec := { name := "fourAdds", fn := fun _ => fun
  | [d1, d2, d3] => { results := [.lit (.bool false)], args := [d1, d2, d3] }
  | _ => none }
def FourAddsWrongFalsely : Prop := fourAddsRow.holds Tryd.pinned (OpenSpec.ofChange fourAddsWrong)

/- THE SECOND FORM. 'bulk': how many values and letters a reading holds, each counted each time it is reached (what is shared counts as often as it is met; a slice's spare places count too). A statement '..UptoSaid' is the law's where the arguments, and the package variables that the reading takes, are together of bulk at most 1048576: NARROWER than '..Said'. Prove '..Said' where nothing that the law and all that it calls make is longer than what came in: it says more and counts as full. Else prove '..UptoSaid'. A law counts once. -/
mutual
def uptoBulk {H : Type} : DataW H → Nat
  | .lit (.string bytes) => bytes.length + 1
  | .lit _ => 1
  | .nil => 1
  | .ptr d => uptoBulk d + 1
  | .slice elems spare => uptoBulkAll elems + uptoBulkAll spare + 1
  | .agg parts => uptoBulkAll parts + 1
  | .iface _ d => uptoBulk d + 1
  | .map entries => uptoBulkEntries entries + 1
  | .held _ => 1
def uptoBulkAll {H : Type} : List (DataW H) → Nat
  | [] => 0
  | d :: r => uptoBulk d + uptoBulkAll r
def uptoBulkEntries {H : Type} : List (Lit × DataW H) → Nat
  | [] => 0
  | x :: r => uptoBulkEntry x + uptoBulkEntries r
def uptoBulkEntry {H : Type} : Lit × DataW H → Nat
  | (.string bytes, d) => bytes.length + uptoBulk d + 1
  | (_, d) => uptoBulk d + 1
 end
def uptoSmall : (H : Type) → List (DataW H) → Bool := fun _ ds => decide (uptoBulkAll ds ≤ 1048576)
def OpenSpec.upto (s : _root_.Go.ChangeSpec) : _root_.Go.OpenSpec := { _root_.Go.OpenSpec.ofChange s with cond := some uptoSmall }

/-- 'gameroomlaw.FourDrops', WHERE WHAT IT READS IS OF BULK AT MOST 1048576: true; the input reads as it did. -/
def fourDropsUptoRow : OpenClaim := { program := "ytaglhmkjdajgpaadoor", sum := "0c350a5698b1a386277c8ad30870f4a8e293d3f2a0147e5007594e634658fcfb", func := "gameroom/gameroomlaw.FourDrops", spec := "fourDrops", unfollowed := true, recurses := true, named := ["gameroom/grids.directions"], apart := false, laid := [("gameroom/grids.directions", laid_gameroom_grids_directions)], narrowed := true }
def FourDropsUptoSaid : Prop := fourDropsUptoRow.holds Tryd.pinned (OpenSpec.upto fourDropsSpec)

/-- 'gameroomlaw.FourBests', WHERE WHAT IT READS IS OF BULK AT MOST 1048576: true; the input reads as it did. -/
def fourBestsUptoRow : OpenClaim := { program := "ytaglhmkjdajgpaadoor", sum := "0c350a5698b1a386277c8ad30870f4a8e293d3f2a0147e5007594e634658fcfb", func := "gameroom/gameroomlaw.FourBests", spec := "fourBests", unfollowed := true, recurses := true, named := ["gameroom/grids.directions"], apart := false, laid := [("gameroom/grids.directions", laid_gameroom_grids_directions)], narrowed := true }
def FourBestsUptoSaid : Prop := fourBestsUptoRow.holds Tryd.pinned (OpenSpec.upto fourBestsSpec)

/-- 'gameroomlaw.FourCounts', WHERE WHAT IT READS IS OF BULK AT MOST 1048576: true; the input reads as it did. -/
def fourCountsUptoRow : OpenClaim := { program := "ytaglhmkjdajgpaadoor", sum := "0c350a5698b1a386277c8ad30870f4a8e293d3f2a0147e5007594e634658fcfb", func := "gameroom/gameroomlaw.FourCounts", spec := "fourCounts", unfollowed := true, recurses := true, named := ["gameroom/grids.directions"], apart := false, laid := [("gameroom/grids.directions", laid_gameroom_grids_directions)], narrowed := true }
def FourCountsUptoSaid : Prop := fourCountsUptoRow.holds Tryd.pinned (OpenSpec.upto fourCountsSpec)

/-- 'gameroomkeep.FourMirrors', WHERE WHAT IT READS IS OF BULK AT MOST 1048576: true; the input reads as it did. -/
def fourMirrorsUptoRow : OpenClaim := { program := "ytaglhmkjdajgpaadoor", sum := "0c350a5698b1a386277c8ad30870f4a8e293d3f2a0147e5007594e634658fcfb", func := "gameroom/gameroomkeep.FourMirrors", spec := "fourMirrors", unfollowed := true, recurses := true, named := ["gameroom/grids.directions"], apart := false, laid := [("gameroom/grids.directions", laid_gameroom_grids_directions)], narrowed := true }
def FourMirrorsUptoSaid : Prop := fourMirrorsUptoRow.holds Tryd.pinned (OpenSpec.upto fourMirrorsSpec)

/-- 'gameroomkeep.FourAdds', WHERE WHAT IT READS IS OF BULK AT MOST 1048576: true; the input reads as it did. -/
def fourAddsUptoRow : OpenClaim := { program := "ytaglhmkjdajgpaadoor", sum := "0c350a5698b1a386277c8ad30870f4a8e293d3f2a0147e5007594e634658fcfb", func := "gameroom/gameroomkeep.FourAdds", spec := "fourAdds", unfollowed := true, recurses := true, named := ["gameroom/grids.directions"], apart := false, laid := [("gameroom/grids.directions", laid_gameroom_grids_directions)], narrowed := true }
def FourAddsUptoSaid : Prop := fourAddsUptoRow.holds Tryd.pinned (OpenSpec.upto fourAddsSpec)

end Rows
end Go.Proofs.YtaglhmkjdajgpaaDoor
