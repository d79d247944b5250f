/-
  DERIVED. GIVEN WITH THE SEED: THE CARDS: each row of YtnbaangnpoblfaaDoorRows.lean that lists a variable, with what it lists TIED to the program's text (the seventh form; the later family's looks); each row that meets fmt, with fmt's text TOLD by the authors' own Lean function (tested against real Go, not proved from fmt's source: count such statements apart). THE CARD IS WHAT COUNTS. Prove the row's statement (the work); the ties are given (YtnbaangnpoblfaaDoorTie.lean); close each card by the builder's one call (the guide's Derived/Test/ToyasCard.lean, 'card_holds'). Laid BY PROGRAM, IN A SANDBOX (cutbox-door.mjs). By AI agents, Wed Nov 11 2026. No macro, syntax, notation, axiom, sorry.
-/
import Derived.Test.YtnbaangnpoblfaaDoorRows
import GoSem.ClaimSeven
namespace Go.Proofs.YtnbaangnpoblfaaDoor
namespace Rows

/-- THE TIED CARD OF 'gameroomlaw.DraughtsWays'. -/
def draughtsWaysCard : Claim7 := { stood := { row := draughtsWaysRow, standIns := [], harness := (true, "afc327c05ebe51e88c26d67e164fc35b28771daed917ce252e2f61d7f4a99875"), looks := false }, kinds := [], alts := [], laidByText := true, laidKinds := [.data, .data], laidTests := true, laidLooks := .later }
def DraughtsWaysCardSaid : Prop := Claim7.holds Tryd.pinned (.plain (OpenSpec.ofChange draughtsWaysSpec)) draughtsWaysCard

/-- THE TIED CARD OF 'gameroomlaw.DraughtsDoes'. -/
def draughtsDoesCard : Claim7 := { stood := { row := draughtsDoesRow, standIns := [], harness := (true, "afc327c05ebe51e88c26d67e164fc35b28771daed917ce252e2f61d7f4a99875"), looks := false }, kinds := [], alts := [], laidByText := true, laidKinds := [.data, .data], laidTests := true, laidLooks := .later }
def DraughtsDoesCardSaid : Prop := Claim7.holds Tryd.pinned (.plain (OpenSpec.ofChange draughtsDoesSpec)) draughtsDoesCard

/-- THE TIED CARD OF 'gameroomlaw.DraughtsTexts'. -/
def draughtsTextsCard : Claim7 := { stood := { row := draughtsTextsRow, standIns := [], harness := (true, "afc327c05ebe51e88c26d67e164fc35b28771daed917ce252e2f61d7f4a99875"), looks := false }, kinds := [], alts := [], laidByText := true, laidKinds := [.data, .data, .data], laidTests := true, laidLooks := .later }
def DraughtsTextsCardSaid : Prop := Claim7.holds Tryd.pinned (.plain (OpenSpec.ofChange draughtsTextsSpec)) draughtsTextsCard

/-- THE TIED CARD OF 'gameroomkeep.DraughtsTurned'. -/
def draughtsTurnedCard : Claim7 := { stood := { row := draughtsTurnedRow, standIns := [], harness := (true, "afc327c05ebe51e88c26d67e164fc35b28771daed917ce252e2f61d7f4a99875"), looks := false }, kinds := [], alts := [], laidByText := true, laidKinds := [.data, .data], laidTests := true, laidLooks := .later }
def DraughtsTurnedCardSaid : Prop := Claim7.holds Tryd.pinned (.plain (OpenSpec.ofChange draughtsTurnedSpec)) draughtsTurnedCard

/-- THE TIED CARD OF 'gameroomkeep.DraughtsTaken'. -/
def draughtsTakenCard : Claim7 := { stood := { row := draughtsTakenRow, standIns := [], harness := (true, "afc327c05ebe51e88c26d67e164fc35b28771daed917ce252e2f61d7f4a99875"), looks := false }, kinds := [], alts := [], laidByText := true, laidKinds := [.data, .data, .data, .data], laidTests := true, laidLooks := .later }
def DraughtsTakenCardSaid : Prop := Claim7.holds Tryd.pinned (.plain (OpenSpec.ofChange draughtsTakenSpec)) draughtsTakenCard

/-- THE SECOND FORM's CARD OF 'gameroomlaw.DraughtsWays'. -/
def draughtsWaysUptoCard : Claim7 := { stood := { row := draughtsWaysUptoRow, standIns := [], harness := (true, "afc327c05ebe51e88c26d67e164fc35b28771daed917ce252e2f61d7f4a99875"), looks := false }, kinds := [], alts := [], laidByText := true, laidKinds := [.data, .data], laidTests := true, laidLooks := .later }
def DraughtsWaysUptoCardSaid : Prop := Claim7.holds Tryd.pinned (.plain (OpenSpec.upto draughtsWaysSpec)) draughtsWaysUptoCard

/-- THE SECOND FORM's CARD OF 'gameroomlaw.DraughtsDoes'. -/
def draughtsDoesUptoCard : Claim7 := { stood := { row := draughtsDoesUptoRow, standIns := [], harness := (true, "afc327c05ebe51e88c26d67e164fc35b28771daed917ce252e2f61d7f4a99875"), looks := false }, kinds := [], alts := [], laidByText := true, laidKinds := [.data, .data], laidTests := true, laidLooks := .later }
def DraughtsDoesUptoCardSaid : Prop := Claim7.holds Tryd.pinned (.plain (OpenSpec.upto draughtsDoesSpec)) draughtsDoesUptoCard

/-- THE SECOND FORM's CARD OF 'gameroomlaw.DraughtsTexts'. -/
def draughtsTextsUptoCard : Claim7 := { stood := { row := draughtsTextsUptoRow, standIns := [], harness := (true, "afc327c05ebe51e88c26d67e164fc35b28771daed917ce252e2f61d7f4a99875"), looks := false }, kinds := [], alts := [], laidByText := true, laidKinds := [.data, .data, .data], laidTests := true, laidLooks := .later }
def DraughtsTextsUptoCardSaid : Prop := Claim7.holds Tryd.pinned (.plain (OpenSpec.upto draughtsTextsSpec)) draughtsTextsUptoCard

/-- THE SECOND FORM's CARD OF 'gameroomkeep.DraughtsTurned'. -/
def draughtsTurnedUptoCard : Claim7 := { stood := { row := draughtsTurnedUptoRow, standIns := [], harness := (true, "afc327c05ebe51e88c26d67e164fc35b28771daed917ce252e2f61d7f4a99875"), looks := false }, kinds := [], alts := [], laidByText := true, laidKinds := [.data, .data], laidTests := true, laidLooks := .later }
def DraughtsTurnedUptoCardSaid : Prop := Claim7.holds Tryd.pinned (.plain (OpenSpec.upto draughtsTurnedSpec)) draughtsTurnedUptoCard

/-- THE SECOND FORM's CARD OF 'gameroomkeep.DraughtsTaken'. -/
def draughtsTakenUptoCard : Claim7 := { stood := { row := draughtsTakenUptoRow, standIns := [], harness := (true, "afc327c05ebe51e88c26d67e164fc35b28771daed917ce252e2f61d7f4a99875"), looks := false }, kinds := [], alts := [], laidByText := true, laidKinds := [.data, .data, .data, .data], laidTests := true, laidLooks := .later }
def DraughtsTakenUptoCardSaid : Prop := Claim7.holds Tryd.pinned (.plain (OpenSpec.upto draughtsTakenSpec)) draughtsTakenUptoCard
end Rows
end Go.Proofs.YtnbaangnpoblfaaDoor
