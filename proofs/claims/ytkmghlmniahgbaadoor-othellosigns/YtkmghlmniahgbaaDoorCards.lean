/-
  DERIVED. GIVEN WITH THE SEED: THE CARDS: each row of YtkmghlmniahgbaaDoorRows.lean that lists a variable, with what it lists TIED to the program's text (the seventh form; the later family's looks); each row that meets fmt, with fmt's text TOLD by the authors' own Lean function (tested against real Go, not proved from fmt's source: count such statements apart). THE CARD IS WHAT COUNTS. Prove the row's statement (the work); the ties are given (YtkmghlmniahgbaaDoorTie.lean); close each card by the builder's one call (the guide's Derived/Test/ToyasCard.lean, 'card_holds'). Laid BY PROGRAM, IN A SANDBOX (cutbox-door.mjs). By AI agents, Wed Nov 11 2026. No macro, syntax, notation, axiom, sorry.
-/
import Derived.Test.YtkmghlmniahgbaaDoorRows
import GoSem.ClaimSeven
namespace Go.Proofs.YtkmghlmniahgbaaDoor
namespace Rows

/-- THE TIED CARD OF 'gameroomlaw.OthelloPuts'. -/
def othelloPutsCard : Claim7 := { stood := { row := othelloPutsRow, standIns := [], harness := (true, "dffdc0321c5de67de1c4e5cd7ba02b42a68c74a12936c71c6ff7acf705af4d63"), looks := false }, kinds := [], alts := [], laidByText := true, laidKinds := [.data, .data], laidTests := true, laidLooks := .later }
def OthelloPutsCardSaid : Prop := Claim7.holds Tryd.pinned (.plain (OpenSpec.ofChange othelloPutsSpec)) othelloPutsCard

/-- THE TIED CARD OF 'gameroomlaw.OthelloCounts'. -/
def othelloCountsCard : Claim7 := { stood := { row := othelloCountsRow, standIns := [], harness := (true, "dffdc0321c5de67de1c4e5cd7ba02b42a68c74a12936c71c6ff7acf705af4d63"), looks := false }, kinds := [], alts := [], laidByText := true, laidKinds := [.data], laidTests := true, laidLooks := .later }
def OthelloCountsCardSaid : Prop := Claim7.holds Tryd.pinned (.plain (OpenSpec.ofChange othelloCountsSpec)) othelloCountsCard

/-- THE TIED CARD OF 'gameroomlaw.OthelloBests'. -/
def othelloBestsCard : Claim7 := { stood := { row := othelloBestsRow, standIns := [], harness := (true, "dffdc0321c5de67de1c4e5cd7ba02b42a68c74a12936c71c6ff7acf705af4d63"), looks := false }, kinds := [], alts := [], laidByText := true, laidKinds := [.data, .data], laidTests := true, laidLooks := .later }
def OthelloBestsCardSaid : Prop := Claim7.holds Tryd.pinned (.plain (OpenSpec.ofChange othelloBestsSpec)) othelloBestsCard

/-- THE TIED CARD OF 'gameroomkeep.OthelloSigns'. -/
def othelloSignsCard : Claim7 := { stood := { row := othelloSignsRow, standIns := [], harness := (true, "dffdc0321c5de67de1c4e5cd7ba02b42a68c74a12936c71c6ff7acf705af4d63"), looks := false }, kinds := [], alts := [], laidByText := true, laidKinds := [.data, .data], laidTests := true, laidLooks := .later }
def OthelloSignsCardSaid : Prop := Claim7.holds Tryd.pinned (.plain (OpenSpec.ofChange othelloSignsSpec)) othelloSignsCard

/-- THE TIED CARD OF 'gameroomkeep.OthelloDeep'. -/
def othelloDeepCard : Claim7 := { stood := { row := othelloDeepRow, standIns := [], harness := (true, "dffdc0321c5de67de1c4e5cd7ba02b42a68c74a12936c71c6ff7acf705af4d63"), looks := false }, kinds := [], alts := [], laidByText := true, laidKinds := [.data, .data], laidTests := true, laidLooks := .later }
def OthelloDeepCardSaid : Prop := Claim7.holds Tryd.pinned (.plain (OpenSpec.ofChange othelloDeepSpec)) othelloDeepCard

/-- THE SECOND FORM's CARD OF 'gameroomlaw.OthelloPuts'. -/
def othelloPutsUptoCard : Claim7 := { stood := { row := othelloPutsUptoRow, standIns := [], harness := (true, "dffdc0321c5de67de1c4e5cd7ba02b42a68c74a12936c71c6ff7acf705af4d63"), looks := false }, kinds := [], alts := [], laidByText := true, laidKinds := [.data, .data], laidTests := true, laidLooks := .later }
def OthelloPutsUptoCardSaid : Prop := Claim7.holds Tryd.pinned (.plain (OpenSpec.upto othelloPutsSpec)) othelloPutsUptoCard

/-- THE SECOND FORM's CARD OF 'gameroomlaw.OthelloCounts'. -/
def othelloCountsUptoCard : Claim7 := { stood := { row := othelloCountsUptoRow, standIns := [], harness := (true, "dffdc0321c5de67de1c4e5cd7ba02b42a68c74a12936c71c6ff7acf705af4d63"), looks := false }, kinds := [], alts := [], laidByText := true, laidKinds := [.data], laidTests := true, laidLooks := .later }
def OthelloCountsUptoCardSaid : Prop := Claim7.holds Tryd.pinned (.plain (OpenSpec.upto othelloCountsSpec)) othelloCountsUptoCard

/-- THE SECOND FORM's CARD OF 'gameroomlaw.OthelloBests'. -/
def othelloBestsUptoCard : Claim7 := { stood := { row := othelloBestsUptoRow, standIns := [], harness := (true, "dffdc0321c5de67de1c4e5cd7ba02b42a68c74a12936c71c6ff7acf705af4d63"), looks := false }, kinds := [], alts := [], laidByText := true, laidKinds := [.data, .data], laidTests := true, laidLooks := .later }
def OthelloBestsUptoCardSaid : Prop := Claim7.holds Tryd.pinned (.plain (OpenSpec.upto othelloBestsSpec)) othelloBestsUptoCard

/-- THE SECOND FORM's CARD OF 'gameroomkeep.OthelloSigns'. -/
def othelloSignsUptoCard : Claim7 := { stood := { row := othelloSignsUptoRow, standIns := [], harness := (true, "dffdc0321c5de67de1c4e5cd7ba02b42a68c74a12936c71c6ff7acf705af4d63"), looks := false }, kinds := [], alts := [], laidByText := true, laidKinds := [.data, .data], laidTests := true, laidLooks := .later }
def OthelloSignsUptoCardSaid : Prop := Claim7.holds Tryd.pinned (.plain (OpenSpec.upto othelloSignsSpec)) othelloSignsUptoCard

/-- THE SECOND FORM's CARD OF 'gameroomkeep.OthelloDeep'. -/
def othelloDeepUptoCard : Claim7 := { stood := { row := othelloDeepUptoRow, standIns := [], harness := (true, "dffdc0321c5de67de1c4e5cd7ba02b42a68c74a12936c71c6ff7acf705af4d63"), looks := false }, kinds := [], alts := [], laidByText := true, laidKinds := [.data, .data], laidTests := true, laidLooks := .later }
def OthelloDeepUptoCardSaid : Prop := Claim7.holds Tryd.pinned (.plain (OpenSpec.upto othelloDeepSpec)) othelloDeepUptoCard
end Rows
end Go.Proofs.YtkmghlmniahgbaaDoor
