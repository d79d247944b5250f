/-
  DERIVED. GIVEN WITH THE SEED: THE CARDS: each row of YtdmlamnonbmboaaGreatDoorRows.lean that lists a variable, with what it lists TIED to the program's text (the seventh form; the later family's looks); each row that meets fmt, with fmt's text TOLD by the authors' own Lean function (tested against real Go, not proved from fmt's source: count such statements apart). THE CARD IS WHAT COUNTS. Prove the row's statement (the work); the ties are given (YtdmlamnonbmboaaGreatDoorTie.lean); close each card by the builder's one call (the guide's Derived/Test/ToyasCard.lean, 'card_holds'). Laid BY PROGRAM, IN A SANDBOX (cutbox-door.mjs). By AI agents, Wed Nov 11 2026. No macro, syntax, notation, axiom, sorry.
-/
import Derived.Test.YtdmlamnonbmboaaGreatDoorRows
import GoSem.ClaimSeven
namespace Go.Proofs.YtdmlamnonbmboaaGreatDoor
namespace Rows

/-- THE TIED CARD OF 'gameroomkeep.ProblemsOne'. -/
def problemsOneCard : Claim7 := { stood := { row := problemsOneRow, standIns := [], harness := (true, "994cb10e542d1813a9a5675e79e54fc7e7b2dee41bdf4c19103aee4149dcae79"), looks := true }, kinds := [], alts := [], laidByText := true, laidKinds := [.data, .data, .data, .data, .sentinel, .sentinel, .data, .data, .pinned], laidTests := true, laidLooks := .later }
def ProblemsOneCardSaid : Prop := Claim7.holds Tryz.pinned (.plain (OpenSpec.ofChange problemsOneSpec)) problemsOneCard

/-- THE TIED CARD OF 'gameroomkeep.ProblemsDeep'. -/
def problemsDeepCard : Claim7 := { stood := { row := problemsDeepRow, standIns := [], harness := (true, "994cb10e542d1813a9a5675e79e54fc7e7b2dee41bdf4c19103aee4149dcae79"), looks := true }, kinds := [], alts := [], laidByText := true, laidKinds := [.data, .data, .data, .data, .sentinel, .sentinel, .data, .data, .pinned], laidTests := true, laidLooks := .later }
def ProblemsDeepCardSaid : Prop := Claim7.holds Tryz.pinned (.plain (OpenSpec.ofChange problemsDeepSpec)) problemsDeepCard

/-- THE SECOND FORM's CARD OF 'gameroomkeep.ProblemsOne'. -/
def problemsOneUptoCard : Claim7 := { stood := { row := problemsOneUptoRow, standIns := [], harness := (true, "994cb10e542d1813a9a5675e79e54fc7e7b2dee41bdf4c19103aee4149dcae79"), looks := true }, kinds := [], alts := [], laidByText := true, laidKinds := [.data, .data, .data, .data, .sentinel, .sentinel, .data, .data, .pinned], laidTests := true, laidLooks := .later }
def ProblemsOneUptoCardSaid : Prop := Claim7.holds Tryz.pinned (.plain (OpenSpec.upto problemsOneSpec)) problemsOneUptoCard

/-- THE SECOND FORM's CARD OF 'gameroomkeep.ProblemsDeep'. -/
def problemsDeepUptoCard : Claim7 := { stood := { row := problemsDeepUptoRow, standIns := [], harness := (true, "994cb10e542d1813a9a5675e79e54fc7e7b2dee41bdf4c19103aee4149dcae79"), looks := true }, kinds := [], alts := [], laidByText := true, laidKinds := [.data, .data, .data, .data, .sentinel, .sentinel, .data, .data, .pinned], laidTests := true, laidLooks := .later }
def ProblemsDeepUptoCardSaid : Prop := Claim7.holds Tryz.pinned (.plain (OpenSpec.upto problemsDeepSpec)) problemsDeepUptoCard
end Rows
end Go.Proofs.YtdmlamnonbmboaaGreatDoor
