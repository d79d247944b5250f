/-
  NARROWER THAN 'FOR EVERY INPUT', by the rows' own cells (each row's printed sentence says how): SlideMoves: laid · SlideHomes: laid · SlideHalf: laid · SlideShort: laid.
  DERIVED. THE GIVEN ROWS OF THIS SEAT. 4 by the template 'for every input the law returns true; each argument reads behind the call as it read before'; 0 by the template 'total and deterministic' (their statements: YticalbpohhpjaaaDoorTotals.lean).
  GIVEN WITH THE SEED: the statements are not yours to turn. If you find one false, say at which input.
  Laid BY PROGRAM, IN A SANDBOX (cutbox-rows.mjs): the forced cells as the released guide's own fill.sh prints them over the translation 29115f5fd82ba645… (all of the seat's roots in one cut). By AI agents, Wed Nov 11 2026. No macro, syntax, notation, axiom, sorry.
-/
import Derived.Test.YticalbpohhpjaaaDoorChecked
import GoSem.Claim
import GoSem.ClaimJoined
import GoSem.ClaimMapViews
import Derived.JoinedTies
import Derived.KernelRfl
namespace Go.Proofs.YticalbpohhpjaaaDoor
/- THE CELL 'sum', in the pinned program and in every row, IS THE sha256 OF THE DUMP (.gsa) THAT YticalbpohhpjaaaDoorProg.lean LOADS. Nothing in Lean hashes anything: it is a label: what it is worth is what the hold of that sum in a sandbox is worth. -/
noncomputable def Tryd.pinned : Pinned := { name := "yticalbpohhpjaaadoor", sum := "29115f5fd82ba6459506dcbc5ec53687bf5c7a62c085fd0016bce23d3018b67f", checked := Tryd.checked }
namespace Rows
def none {H : Type} : Left H := { results := [], args := [] }

/- WHAT THE LISTED PACKAGE-LEVEL VARIABLES READ AS WHEN THE CALL BEGINS. Each datum BY PROGRAM (the guide's laid-datum.mjs) off the statement by which the dump's own 'gosem.cut.vars' lays the variable. In a bare row this is a premise. The card (YticalbpohhpjaaaDoorCards.lean) ties it to the program's text. -/
def laid_gameroom_slide_sources {H : Type} : DataW H := .agg [.agg [.lit (.int .i64 0), .lit (.int .i64 1)], .agg [.lit (.int .i64 (-1)), .lit (.int .i64 0)], .agg [.lit (.int .i64 0), .lit (.int .i64 (-1))], .agg [.lit (.int .i64 1), .lit (.int .i64 0)]]

/-- 'gameroomlaw.SlideMoves': WHATEVER THE INPUT: true; the input reads as it did. -/
def slideMovesSpec : ChangeSpec := { name := "slideMoves", fn := fun _ => fun
  | [d1, d2] => { results := [.lit (.bool true)], args := [d1, d2] }
  | _ => none }
def slideMovesRow : OpenClaim := { program := "yticalbpohhpjaaadoor", sum := "29115f5fd82ba6459506dcbc5ec53687bf5c7a62c085fd0016bce23d3018b67f", func := "gameroom/gameroomlaw.SlideMoves", spec := "slideMoves", named := ["gameroom/slide.sources"], plainKeys := false, apart := false, laid := [("gameroom/slide.sources", laid_gameroom_slide_sources)] }
def SlideMovesSaid : Prop := slideMovesRow.holds Tryd.pinned (OpenSpec.ofChange slideMovesSpec)

/-- ITS FALSE NEIGHBOUR: 'it returns false'. Refute it at one input. -/
def slideMovesWrong : ChangeSpec := { name := "slideMoves", fn := fun _ => fun
  | [d1, d2] => { results := [.lit (.bool false)], args := [d1, d2] }
  | _ => none }
def SlideMovesWrongFalsely : Prop := slideMovesRow.holds Tryd.pinned (OpenSpec.ofChange slideMovesWrong)

/-- 'gameroomlaw.SlideHomes': WHATEVER THE INPUT: true; the input reads as it did. -/
def slideHomesSpec : ChangeSpec := { name := "slideHomes", fn := fun _ => fun
  | [d1, d2, d3, d4] => { results := [.lit (.bool true)], args := [d1, d2, d3, d4] }
  | _ => none }
def slideHomesRow : OpenClaim := { program := "yticalbpohhpjaaadoor", sum := "29115f5fd82ba6459506dcbc5ec53687bf5c7a62c085fd0016bce23d3018b67f", func := "gameroom/gameroomlaw.SlideHomes", spec := "slideHomes", unfollowed := true, recurses := true, named := ["gameroom/slide.sources"], plainKeys := false, apart := false, laid := [("gameroom/slide.sources", laid_gameroom_slide_sources)] }
def SlideHomesSaid : Prop := slideHomesRow.holds Tryd.pinned (OpenSpec.ofChange slideHomesSpec)

/-- ITS FALSE NEIGHBOUR: 'it returns false'. Refute it at one input. -/
def slideHomesWrong : ChangeSpec := { name := "slideHomes", fn := fun _ => fun
  | [d1, d2, d3, d4] => { results := [.lit (.bool false)], args := [d1, d2, d3, d4] }
  | _ => none }
def SlideHomesWrongFalsely : Prop := slideHomesRow.holds Tryd.pinned (OpenSpec.ofChange slideHomesWrong)

/-- 'gameroomkeep.SlideHalf': WHATEVER THE INPUT: true; the input reads as it did. -/
def slideHalfSpec : ChangeSpec := { name := "slideHalf", fn := fun _ => fun
  | [d1, d2, d3, d4, d5, d6] => { results := [.lit (.bool true)], args := [d1, d2, d3, d4, d5, d6] }
  | _ => none }
def slideHalfRow : OpenClaim := { program := "yticalbpohhpjaaadoor", sum := "29115f5fd82ba6459506dcbc5ec53687bf5c7a62c085fd0016bce23d3018b67f", func := "gameroom/gameroomkeep.SlideHalf", spec := "slideHalf", named := ["gameroom/slide.sources"], plainKeys := false, apart := false, laid := [("gameroom/slide.sources", laid_gameroom_slide_sources)] }
def SlideHalfSaid : Prop := slideHalfRow.holds Tryd.pinned (OpenSpec.ofChange slideHalfSpec)

/-- ITS FALSE NEIGHBOUR: 'it returns false'. Refute it at one input. -/
def slideHalfWrong : ChangeSpec := { name := "slideHalf", fn := fun _ => fun
  | [d1, d2, d3, d4, d5, d6] => { results := [.lit (.bool false)], args := [d1, d2, d3, d4, d5, d6] }
  | _ => none }
def SlideHalfWrongFalsely : Prop := slideHalfRow.holds Tryd.pinned (OpenSpec.ofChange slideHalfWrong)

/-- 'gameroomkeep.SlideShort': WHATEVER THE INPUT: true; the input reads as it did. -/
def slideShortSpec : ChangeSpec := { name := "slideShort", fn := fun _ => fun
  | [d1, d2] => { results := [.lit (.bool true)], args := [d1, d2] }
  | _ => none }
def slideShortRow : OpenClaim := { program := "yticalbpohhpjaaadoor", sum := "29115f5fd82ba6459506dcbc5ec53687bf5c7a62c085fd0016bce23d3018b67f", func := "gameroom/gameroomkeep.SlideShort", spec := "slideShort", unfollowed := true, recurses := true, named := ["gameroom/slide.sources"], plainKeys := false, apart := false, laid := [("gameroom/slide.sources", laid_gameroom_slide_sources)] }
def SlideShortSaid : Prop := slideShortRow.holds Tryd.pinned (OpenSpec.ofChange slideShortSpec)

/-- ITS FALSE NEIGHBOUR: 'it returns false'. Refute it at one input. -/
def slideShortWrong : ChangeSpec := { name := "slideShort", fn := fun _ => fun
  | [d1, d2] => { results := [.lit (.bool false)], args := [d1, d2] }
  | _ => none }
def SlideShortWrongFalsely : Prop := slideShortRow.holds Tryd.pinned (OpenSpec.ofChange slideShortWrong)

/- THE SECOND FORM. 'bulk': how many values and letters a reading holds, each counted each time it is reached (what is shared counts as often as it is met; a slice's spare places count too). A statement '..UptoSaid' is the law's where the arguments, and the package variables that the reading takes, are together of bulk at most 1048576: NARROWER than '..Said'. Prove '..Said' where nothing that the law and all that it calls make is longer than what came in: it says more and counts as full. Else prove '..UptoSaid'. A law counts once. -/
mutual
def uptoBulk {H : Type} : DataW H → Nat
  | .lit (.string bytes) => bytes.length + 1
  | .lit _ => 1
  | .nil => 1
  | .ptr d => uptoBulk d + 1
  | .slice elems spare => uptoBulkAll elems + uptoBulkAll spare + 1
  | .agg parts => uptoBulkAll parts + 1
  | .iface _ d => uptoBulk d + 1
  | .map entries => uptoBulkEntries entries + 1
  | .held _ => 1
def uptoBulkAll {H : Type} : List (DataW H) → Nat
  | [] => 0
  | d :: r => uptoBulk d + uptoBulkAll r
def uptoBulkEntries {H : Type} : List (Lit × DataW H) → Nat
  | [] => 0
  | x :: r => uptoBulkEntry x + uptoBulkEntries r
def uptoBulkEntry {H : Type} : Lit × DataW H → Nat
  | (.string bytes, d) => bytes.length + uptoBulk d + 1
  | (_, d) => uptoBulk d + 1
 end
def uptoSmall : (H : Type) → List (DataW H) → Bool := fun _ ds => decide (uptoBulkAll ds ≤ 1048576)
def OpenSpec.upto (s : _root_.Go.ChangeSpec) : _root_.Go.OpenSpec := { _root_.Go.OpenSpec.ofChange s with cond := some uptoSmall }

/-- 'gameroomlaw.SlideMoves', WHERE WHAT IT READS IS OF BULK AT MOST 1048576: true; the input reads as it did. -/
def slideMovesUptoRow : OpenClaim := { program := "yticalbpohhpjaaadoor", sum := "29115f5fd82ba6459506dcbc5ec53687bf5c7a62c085fd0016bce23d3018b67f", func := "gameroom/gameroomlaw.SlideMoves", spec := "slideMoves", named := ["gameroom/slide.sources"], plainKeys := false, apart := false, laid := [("gameroom/slide.sources", laid_gameroom_slide_sources)], narrowed := true }
def SlideMovesUptoSaid : Prop := slideMovesUptoRow.holds Tryd.pinned (OpenSpec.upto slideMovesSpec)

/-- 'gameroomlaw.SlideHomes', WHERE WHAT IT READS IS OF BULK AT MOST 1048576: true; the input reads as it did. -/
def slideHomesUptoRow : OpenClaim := { program := "yticalbpohhpjaaadoor", sum := "29115f5fd82ba6459506dcbc5ec53687bf5c7a62c085fd0016bce23d3018b67f", func := "gameroom/gameroomlaw.SlideHomes", spec := "slideHomes", unfollowed := true, recurses := true, named := ["gameroom/slide.sources"], plainKeys := false, apart := false, laid := [("gameroom/slide.sources", laid_gameroom_slide_sources)], narrowed := true }
def SlideHomesUptoSaid : Prop := slideHomesUptoRow.holds Tryd.pinned (OpenSpec.upto slideHomesSpec)

/-- 'gameroomkeep.SlideHalf', WHERE WHAT IT READS IS OF BULK AT MOST 1048576: true; the input reads as it did. -/
def slideHalfUptoRow : OpenClaim := { program := "yticalbpohhpjaaadoor", sum := "29115f5fd82ba6459506dcbc5ec53687bf5c7a62c085fd0016bce23d3018b67f", func := "gameroom/gameroomkeep.SlideHalf", spec := "slideHalf", named := ["gameroom/slide.sources"], plainKeys := false, apart := false, laid := [("gameroom/slide.sources", laid_gameroom_slide_sources)], narrowed := true }
def SlideHalfUptoSaid : Prop := slideHalfUptoRow.holds Tryd.pinned (OpenSpec.upto slideHalfSpec)

/-- 'gameroomkeep.SlideShort', WHERE WHAT IT READS IS OF BULK AT MOST 1048576: true; the input reads as it did. -/
def slideShortUptoRow : OpenClaim := { program := "yticalbpohhpjaaadoor", sum := "29115f5fd82ba6459506dcbc5ec53687bf5c7a62c085fd0016bce23d3018b67f", func := "gameroom/gameroomkeep.SlideShort", spec := "slideShort", unfollowed := true, recurses := true, named := ["gameroom/slide.sources"], plainKeys := false, apart := false, laid := [("gameroom/slide.sources", laid_gameroom_slide_sources)], narrowed := true }
def SlideShortUptoSaid : Prop := slideShortUptoRow.holds Tryd.pinned (OpenSpec.upto slideShortSpec)

end Rows
end Go.Proofs.YticalbpohhpjaaaDoor
