/-
  DERIVED. GIVEN WITH THE SEED: THE CARDS: each row of YtldgikinmmkhiaaDoorRows.lean that lists a variable, with what it lists TIED to the program's text (the seventh form; the later family's looks); each row that meets fmt, with fmt's text TOLD by the authors' own Lean function (tested against real Go, not proved from fmt's source: count such statements apart). THE CARD IS WHAT COUNTS. Prove the row's statement (the work); the ties are given (YtldgikinmmkhiaaDoorTie.lean); close each card by the builder's one call (the guide's Derived/Test/ToyasCard.lean, 'card_holds'). Laid BY PROGRAM, IN A SANDBOX (cutbox-door.mjs). By AI agents, Wed Nov 11 2026. No macro, syntax, notation, axiom, sorry.
-/
import Derived.Test.YtldgikinmmkhiaaDoorRows
import GoSem.ClaimSeven
namespace Go.Proofs.YtldgikinmmkhiaaDoor
namespace Rows

/-- THE TIED CARD OF 'gameroomlaw.HexGroups'. -/
def hexGroupsCard : Claim7 := { stood := { row := hexGroupsRow, standIns := [], harness := (true, "282b4b1a843bea175fe1bb72f68e49f34f4061f69ce4b0b216196e0b81a74225"), looks := false }, kinds := [], alts := [], laidByText := true, laidKinds := [.data], laidTests := true, laidLooks := .later }
def HexGroupsCardSaid : Prop := Claim7.holds Tryd.pinned (.plain (OpenSpec.ofChange hexGroupsSpec)) hexGroupsCard

/-- THE TIED CARD OF 'gameroomlaw.HexSolves'. -/
def hexSolvesCard : Claim7 := { stood := { row := hexSolvesRow, standIns := [], harness := (true, "282b4b1a843bea175fe1bb72f68e49f34f4061f69ce4b0b216196e0b81a74225"), looks := false }, kinds := [], alts := [], laidByText := true, laidKinds := [.data], laidTests := true, laidLooks := .later }
def HexSolvesCardSaid : Prop := Claim7.holds Tryd.pinned (.plain (OpenSpec.ofChange hexSolvesSpec)) hexSolvesCard

/-- THE TIED CARD OF 'gameroomkeep.HexOne'. -/
def hexOneCard : Claim7 := { stood := { row := hexOneRow, standIns := [], harness := (true, "282b4b1a843bea175fe1bb72f68e49f34f4061f69ce4b0b216196e0b81a74225"), looks := false }, kinds := [], alts := [], laidByText := true, laidKinds := [.data], laidTests := true, laidLooks := .later }
def HexOneCardSaid : Prop := Claim7.holds Tryd.pinned (.plain (OpenSpec.ofChange hexOneSpec)) hexOneCard

/-- THE TIED CARD OF 'gameroomkeep.HexMore'. -/
def hexMoreCard : Claim7 := { stood := { row := hexMoreRow, standIns := [], harness := (true, "282b4b1a843bea175fe1bb72f68e49f34f4061f69ce4b0b216196e0b81a74225"), looks := false }, kinds := [], alts := [], laidByText := true, laidKinds := [.data], laidTests := true, laidLooks := .later }
def HexMoreCardSaid : Prop := Claim7.holds Tryd.pinned (.plain (OpenSpec.ofChange hexMoreSpec)) hexMoreCard

/-- THE TIED CARD OF 'gameroomkeep.HexShort'. -/
def hexShortCard : Claim7 := { stood := { row := hexShortRow, standIns := [], harness := (true, "282b4b1a843bea175fe1bb72f68e49f34f4061f69ce4b0b216196e0b81a74225"), looks := false }, kinds := [], alts := [], laidByText := true, laidKinds := [.data], laidTests := true, laidLooks := .later }
def HexShortCardSaid : Prop := Claim7.holds Tryd.pinned (.plain (OpenSpec.ofChange hexShortSpec)) hexShortCard

/-- THE SECOND FORM's CARD OF 'gameroomlaw.HexGroups'. -/
def hexGroupsUptoCard : Claim7 := { stood := { row := hexGroupsUptoRow, standIns := [], harness := (true, "282b4b1a843bea175fe1bb72f68e49f34f4061f69ce4b0b216196e0b81a74225"), looks := false }, kinds := [], alts := [], laidByText := true, laidKinds := [.data], laidTests := true, laidLooks := .later }
def HexGroupsUptoCardSaid : Prop := Claim7.holds Tryd.pinned (.plain (OpenSpec.upto hexGroupsSpec)) hexGroupsUptoCard

/-- THE SECOND FORM's CARD OF 'gameroomlaw.HexSolves'. -/
def hexSolvesUptoCard : Claim7 := { stood := { row := hexSolvesUptoRow, standIns := [], harness := (true, "282b4b1a843bea175fe1bb72f68e49f34f4061f69ce4b0b216196e0b81a74225"), looks := false }, kinds := [], alts := [], laidByText := true, laidKinds := [.data], laidTests := true, laidLooks := .later }
def HexSolvesUptoCardSaid : Prop := Claim7.holds Tryd.pinned (.plain (OpenSpec.upto hexSolvesSpec)) hexSolvesUptoCard

/-- THE SECOND FORM's CARD OF 'gameroomkeep.HexOne'. -/
def hexOneUptoCard : Claim7 := { stood := { row := hexOneUptoRow, standIns := [], harness := (true, "282b4b1a843bea175fe1bb72f68e49f34f4061f69ce4b0b216196e0b81a74225"), looks := false }, kinds := [], alts := [], laidByText := true, laidKinds := [.data], laidTests := true, laidLooks := .later }
def HexOneUptoCardSaid : Prop := Claim7.holds Tryd.pinned (.plain (OpenSpec.upto hexOneSpec)) hexOneUptoCard

/-- THE SECOND FORM's CARD OF 'gameroomkeep.HexMore'. -/
def hexMoreUptoCard : Claim7 := { stood := { row := hexMoreUptoRow, standIns := [], harness := (true, "282b4b1a843bea175fe1bb72f68e49f34f4061f69ce4b0b216196e0b81a74225"), looks := false }, kinds := [], alts := [], laidByText := true, laidKinds := [.data], laidTests := true, laidLooks := .later }
def HexMoreUptoCardSaid : Prop := Claim7.holds Tryd.pinned (.plain (OpenSpec.upto hexMoreSpec)) hexMoreUptoCard

/-- THE SECOND FORM's CARD OF 'gameroomkeep.HexShort'. -/
def hexShortUptoCard : Claim7 := { stood := { row := hexShortUptoRow, standIns := [], harness := (true, "282b4b1a843bea175fe1bb72f68e49f34f4061f69ce4b0b216196e0b81a74225"), looks := false }, kinds := [], alts := [], laidByText := true, laidKinds := [.data], laidTests := true, laidLooks := .later }
def HexShortUptoCardSaid : Prop := Claim7.holds Tryd.pinned (.plain (OpenSpec.upto hexShortSpec)) hexShortUptoCard
end Rows
end Go.Proofs.YtldgikinmmkhiaaDoor
