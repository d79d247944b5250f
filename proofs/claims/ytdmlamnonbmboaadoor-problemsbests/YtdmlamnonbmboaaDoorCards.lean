/-
  DERIVED. GIVEN WITH THE SEED: THE CARDS: each row of YtdmlamnonbmboaaDoorRows.lean that lists a variable, with what it lists TIED to the program's text (the seventh form; the later family's looks); each row that meets fmt, with fmt's text TOLD by the authors' own Lean function (tested against real Go, not proved from fmt's source: count such statements apart). THE CARD IS WHAT COUNTS. Prove the row's statement (the work); the ties are given (YtdmlamnonbmboaaDoorTie.lean); close each card by the builder's one call (the guide's Derived/Test/ToyasCard.lean, 'card_holds'). Laid BY PROGRAM, IN A SANDBOX (cutbox-door.mjs). By AI agents, Wed Nov 11 2026. No macro, syntax, notation, axiom, sorry.
-/
import Derived.Test.YtdmlamnonbmboaaDoorRows
import GoSem.ClaimSeven
namespace Go.Proofs.YtdmlamnonbmboaaDoor
namespace Rows

/-- THE TIED CARD OF 'gameroomlaw.ProblemsMates'. -/
def problemsMatesCard : Claim7 := { stood := { row := problemsMatesRow, standIns := [], harness := (true, "c13b3e55bd1958e946cd1b3906c7a2ffefb5bbd752500d8879b73d8d4858fe34"), looks := false }, kinds := [], alts := [], laidByText := true, laidKinds := [.data, .data], laidTests := true, laidLooks := .later }
def ProblemsMatesCardSaid : Prop := Claim7.holds Tryd.pinned (.plain (OpenSpec.ofChange problemsMatesSpec)) problemsMatesCard

/-- THE TIED CARD OF 'gameroomlaw.ProblemsBests'. -/
def problemsBestsCard : Claim7 := { stood := { row := problemsBestsRow, standIns := [], harness := (true, "c13b3e55bd1958e946cd1b3906c7a2ffefb5bbd752500d8879b73d8d4858fe34"), looks := false }, kinds := [], alts := [], laidByText := true, laidKinds := [.data, .data, .data], laidTests := true, laidLooks := .later }
def ProblemsBestsCardSaid : Prop := Claim7.holds Tryd.pinned (.plain (OpenSpec.ofChange problemsBestsSpec)) problemsBestsCard

/-- THE SECOND FORM's CARD OF 'gameroomlaw.ProblemsMates'. -/
def problemsMatesUptoCard : Claim7 := { stood := { row := problemsMatesUptoRow, standIns := [], harness := (true, "c13b3e55bd1958e946cd1b3906c7a2ffefb5bbd752500d8879b73d8d4858fe34"), looks := false }, kinds := [], alts := [], laidByText := true, laidKinds := [.data, .data], laidTests := true, laidLooks := .later }
def ProblemsMatesUptoCardSaid : Prop := Claim7.holds Tryd.pinned (.plain (OpenSpec.upto problemsMatesSpec)) problemsMatesUptoCard

/-- THE SECOND FORM's CARD OF 'gameroomlaw.ProblemsBests'. -/
def problemsBestsUptoCard : Claim7 := { stood := { row := problemsBestsUptoRow, standIns := [], harness := (true, "c13b3e55bd1958e946cd1b3906c7a2ffefb5bbd752500d8879b73d8d4858fe34"), looks := false }, kinds := [], alts := [], laidByText := true, laidKinds := [.data, .data, .data], laidTests := true, laidLooks := .later }
def ProblemsBestsUptoCardSaid : Prop := Claim7.holds Tryd.pinned (.plain (OpenSpec.upto problemsBestsSpec)) problemsBestsUptoCard
end Rows
end Go.Proofs.YtdmlamnonbmboaaDoor
