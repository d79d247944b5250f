/-
  DERIVED. GIVEN WITH THE SEED: THE CARDS: each row of YtaglhmkjdajgpaaDoorRows.lean that lists a variable, with what it lists TIED to the program's text (the seventh form; the later family's looks); each row that meets fmt, with fmt's text TOLD by the authors' own Lean function (tested against real Go, not proved from fmt's source: count such statements apart). THE CARD IS WHAT COUNTS. Prove the row's statement (the work); the ties are given (YtaglhmkjdajgpaaDoorTie.lean); close each card by the builder's one call (the guide's Derived/Test/ToyasCard.lean, 'card_holds'). Laid BY PROGRAM, IN A SANDBOX (cutbox-door.mjs). By AI agents, Wed Nov 11 2026. No macro, syntax, notation, axiom, sorry.
-/
import Derived.Test.YtaglhmkjdajgpaaDoorRows
import GoSem.ClaimSeven
namespace Go.Proofs.YtaglhmkjdajgpaaDoor
namespace Rows

/-- THE TIED CARD OF 'gameroomlaw.FourDrops'. -/
def fourDropsCard : Claim7 := { stood := { row := fourDropsRow, standIns := [], harness := (true, "6e90446c2aba066ad8642b7e3c9dbe4ee1d51421233d2b010435252abea8132f"), looks := false }, kinds := [], alts := [], laidByText := true, laidKinds := [.data], laidTests := true, laidLooks := .later }
def FourDropsCardSaid : Prop := Claim7.holds Tryd.pinned (.plain (OpenSpec.ofChange fourDropsSpec)) fourDropsCard

/-- THE TIED CARD OF 'gameroomlaw.FourBests'. -/
def fourBestsCard : Claim7 := { stood := { row := fourBestsRow, standIns := [], harness := (true, "6e90446c2aba066ad8642b7e3c9dbe4ee1d51421233d2b010435252abea8132f"), looks := false }, kinds := [], alts := [], laidByText := true, laidKinds := [.data], laidTests := true, laidLooks := .later }
def FourBestsCardSaid : Prop := Claim7.holds Tryd.pinned (.plain (OpenSpec.ofChange fourBestsSpec)) fourBestsCard

/-- THE TIED CARD OF 'gameroomlaw.FourCounts'. -/
def fourCountsCard : Claim7 := { stood := { row := fourCountsRow, standIns := [], harness := (true, "6e90446c2aba066ad8642b7e3c9dbe4ee1d51421233d2b010435252abea8132f"), looks := false }, kinds := [], alts := [], laidByText := true, laidKinds := [.data], laidTests := true, laidLooks := .later }
def FourCountsCardSaid : Prop := Claim7.holds Tryd.pinned (.plain (OpenSpec.ofChange fourCountsSpec)) fourCountsCard

/-- THE TIED CARD OF 'gameroomkeep.FourMirrors'. -/
def fourMirrorsCard : Claim7 := { stood := { row := fourMirrorsRow, standIns := [], harness := (true, "6e90446c2aba066ad8642b7e3c9dbe4ee1d51421233d2b010435252abea8132f"), looks := false }, kinds := [], alts := [], laidByText := true, laidKinds := [.data], laidTests := true, laidLooks := .later }
def FourMirrorsCardSaid : Prop := Claim7.holds Tryd.pinned (.plain (OpenSpec.ofChange fourMirrorsSpec)) fourMirrorsCard

/-- THE TIED CARD OF 'gameroomkeep.FourAdds'. -/
def fourAddsCard : Claim7 := { stood := { row := fourAddsRow, standIns := [], harness := (true, "6e90446c2aba066ad8642b7e3c9dbe4ee1d51421233d2b010435252abea8132f"), looks := false }, kinds := [], alts := [], laidByText := true, laidKinds := [.data], laidTests := true, laidLooks := .later }
def FourAddsCardSaid : Prop := Claim7.holds Tryd.pinned (.plain (OpenSpec.ofChange fourAddsSpec)) fourAddsCard

/-- THE SECOND FORM's CARD OF 'gameroomlaw.FourDrops'. -/
def fourDropsUptoCard : Claim7 := { stood := { row := fourDropsUptoRow, standIns := [], harness := (true, "6e90446c2aba066ad8642b7e3c9dbe4ee1d51421233d2b010435252abea8132f"), looks := false }, kinds := [], alts := [], laidByText := true, laidKinds := [.data], laidTests := true, laidLooks := .later }
def FourDropsUptoCardSaid : Prop := Claim7.holds Tryd.pinned (.plain (OpenSpec.upto fourDropsSpec)) fourDropsUptoCard

/-- THE SECOND FORM's CARD OF 'gameroomlaw.FourBests'. -/
def fourBestsUptoCard : Claim7 := { stood := { row := fourBestsUptoRow, standIns := [], harness := (true, "6e90446c2aba066ad8642b7e3c9dbe4ee1d51421233d2b010435252abea8132f"), looks := false }, kinds := [], alts := [], laidByText := true, laidKinds := [.data], laidTests := true, laidLooks := .later }
def FourBestsUptoCardSaid : Prop := Claim7.holds Tryd.pinned (.plain (OpenSpec.upto fourBestsSpec)) fourBestsUptoCard

/-- THE SECOND FORM's CARD OF 'gameroomlaw.FourCounts'. -/
def fourCountsUptoCard : Claim7 := { stood := { row := fourCountsUptoRow, standIns := [], harness := (true, "6e90446c2aba066ad8642b7e3c9dbe4ee1d51421233d2b010435252abea8132f"), looks := false }, kinds := [], alts := [], laidByText := true, laidKinds := [.data], laidTests := true, laidLooks := .later }
def FourCountsUptoCardSaid : Prop := Claim7.holds Tryd.pinned (.plain (OpenSpec.upto fourCountsSpec)) fourCountsUptoCard

/-- THE SECOND FORM's CARD OF 'gameroomkeep.FourMirrors'. -/
def fourMirrorsUptoCard : Claim7 := { stood := { row := fourMirrorsUptoRow, standIns := [], harness := (true, "6e90446c2aba066ad8642b7e3c9dbe4ee1d51421233d2b010435252abea8132f"), looks := false }, kinds := [], alts := [], laidByText := true, laidKinds := [.data], laidTests := true, laidLooks := .later }
def FourMirrorsUptoCardSaid : Prop := Claim7.holds Tryd.pinned (.plain (OpenSpec.upto fourMirrorsSpec)) fourMirrorsUptoCard

/-- THE SECOND FORM's CARD OF 'gameroomkeep.FourAdds'. -/
def fourAddsUptoCard : Claim7 := { stood := { row := fourAddsUptoRow, standIns := [], harness := (true, "6e90446c2aba066ad8642b7e3c9dbe4ee1d51421233d2b010435252abea8132f"), looks := false }, kinds := [], alts := [], laidByText := true, laidKinds := [.data], laidTests := true, laidLooks := .later }
def FourAddsUptoCardSaid : Prop := Claim7.holds Tryd.pinned (.plain (OpenSpec.upto fourAddsSpec)) fourAddsUptoCard
end Rows
end Go.Proofs.YtaglhmkjdajgpaaDoor
