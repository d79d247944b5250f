/-
  No cell of these rows narrows 'for every input' (looked for: loops, veiled, ifaces, maps, wideKeys, modest, calm, conditions, laid).
  DERIVED. THE GIVEN ROWS OF THIS SEAT. 6 by the template 'for every input the law returns true; each argument reads behind the call as it read before'; 0 by the template 'total and deterministic' (their statements: YtdipbbcggccgcaaTotals.lean).
  GIVEN WITH THE SEED: the statements are not yours to turn. If you find one false, say at which input.
  Laid BY PROGRAM, IN A SANDBOX (cutbox-rows.mjs): the forced cells as the released guide's own fill.sh prints them over the translation c81d35cb55305816… (all of the seat's roots in one cut). By AI agents, Wed Nov 11 2026. No macro, syntax, notation, axiom, sorry.
-/
import Derived.Test.YtdipbbcggccgcaaChecked
import GoSem.Claim
import GoSem.ClaimJoined
import GoSem.ClaimMapViews
import Derived.JoinedTies
import Derived.KernelRfl
namespace Go.Proofs.Ytdipbbcggccgcaa
/- THE CELL 'sum', in the pinned program and in every row, IS THE sha256 OF THE DUMP (.gsa) THAT YtdipbbcggccgcaaProg.lean LOADS. Nothing in Lean hashes anything: it is a label: what it is worth is what the hold of that sum in a sandbox is worth. -/
noncomputable def Try.pinned : Pinned := { name := "ytdipbbcggccgcaa", sum := "c81d35cb553058164d5d666d0822ed4a79ba229f3c7a079c5d0908de1fad6219", checked := Try.checked }
namespace Rows
def none {H : Type} : Left H := { results := [], args := [] }

/-- 'gameroomlaw.DeckCards': WHATEVER THE INPUT: true; the input reads as it did. -/
def deckCardsSpec : ChangeSpec := { name := "deckCards", fn := fun _ => fun
  | [d1, d2] => { results := [.lit (.bool true)], args := [d1, d2] }
  | _ => none }
def deckCardsRow : OpenClaim := { program := "ytdipbbcggccgcaa", sum := "c81d35cb553058164d5d666d0822ed4a79ba229f3c7a079c5d0908de1fad6219", func := "gameroom/gameroomlaw.DeckCards", spec := "deckCards", apart := false }
def DeckCardsSaid : Prop := deckCardsRow.holds Try.pinned (OpenSpec.ofChange deckCardsSpec)

/-- ITS FALSE NEIGHBOUR: 'it returns false'. Refute it at one input. -/
def deckCardsWrong : ChangeSpec := { name := "deckCards", fn := fun _ => fun
  | [d1, d2] => { results := [.lit (.bool false)], args := [d1, d2] }
  | _ => none }
def DeckCardsWrongFalsely : Prop := deckCardsRow.holds Try.pinned (OpenSpec.ofChange deckCardsWrong)

/-- 'gameroomlaw.DeckRiffles': WHATEVER THE INPUT: true; the input reads as it did. -/
def deckRifflesSpec : ChangeSpec := { name := "deckRiffles", fn := fun _ => fun
  | [d1, d2, d3] => { results := [.lit (.bool true)], args := [d1, d2, d3] }
  | _ => none }
def deckRifflesRow : OpenClaim := { program := "ytdipbbcggccgcaa", sum := "c81d35cb553058164d5d666d0822ed4a79ba229f3c7a079c5d0908de1fad6219", func := "gameroom/gameroomlaw.DeckRiffles", spec := "deckRiffles", apart := false }
def DeckRifflesSaid : Prop := deckRifflesRow.holds Try.pinned (OpenSpec.ofChange deckRifflesSpec)

/-- ITS FALSE NEIGHBOUR: 'it returns false'. Refute it at one input. -/
def deckRifflesWrong : ChangeSpec := { name := "deckRiffles", fn := fun _ => fun
  | [d1, d2, d3] => { results := [.lit (.bool false)], args := [d1, d2, d3] }
  | _ => none }
def DeckRifflesWrongFalsely : Prop := deckRifflesRow.holds Try.pinned (OpenSpec.ofChange deckRifflesWrong)

/-- 'gameroomlaw.DeckOrders': WHATEVER THE INPUT: true; the input reads as it did. -/
def deckOrdersSpec : ChangeSpec := { name := "deckOrders", fn := fun _ => fun
  | [d1, d2] => { results := [.lit (.bool true)], args := [d1, d2] }
  | _ => none }
def deckOrdersRow : OpenClaim := { program := "ytdipbbcggccgcaa", sum := "c81d35cb553058164d5d666d0822ed4a79ba229f3c7a079c5d0908de1fad6219", func := "gameroom/gameroomlaw.DeckOrders", spec := "deckOrders", apart := false }
def DeckOrdersSaid : Prop := deckOrdersRow.holds Try.pinned (OpenSpec.ofChange deckOrdersSpec)

/-- ITS FALSE NEIGHBOUR: 'it returns false'. Refute it at one input. -/
def deckOrdersWrong : ChangeSpec := { name := "deckOrders", fn := fun _ => fun
  | [d1, d2] => { results := [.lit (.bool false)], args := [d1, d2] }
  | _ => none }
def DeckOrdersWrongFalsely : Prop := deckOrdersRow.holds Try.pinned (OpenSpec.ofChange deckOrdersWrong)

/-- 'gameroomlaw.DeckDeals': WHATEVER THE INPUT: true; the input reads as it did. -/
def deckDealsSpec : ChangeSpec := { name := "deckDeals", fn := fun _ => fun
  | [d1, d2, d3] => { results := [.lit (.bool true)], args := [d1, d2, d3] }
  | _ => none }
def deckDealsRow : OpenClaim := { program := "ytdipbbcggccgcaa", sum := "c81d35cb553058164d5d666d0822ed4a79ba229f3c7a079c5d0908de1fad6219", func := "gameroom/gameroomlaw.DeckDeals", spec := "deckDeals", apart := false }
def DeckDealsSaid : Prop := deckDealsRow.holds Try.pinned (OpenSpec.ofChange deckDealsSpec)

/-- ITS FALSE NEIGHBOUR: 'it returns false'. Refute it at one input. -/
def deckDealsWrong : ChangeSpec := { name := "deckDeals", fn := fun _ => fun
  | [d1, d2, d3] => { results := [.lit (.bool false)], args := [d1, d2, d3] }
  | _ => none }
def DeckDealsWrongFalsely : Prop := deckDealsRow.holds Try.pinned (OpenSpec.ofChange deckDealsWrong)

/-- 'gameroomlaw.DeckNumbers': WHATEVER THE INPUT: true; the input reads as it did. -/
def deckNumbersSpec : ChangeSpec := { name := "deckNumbers", fn := fun _ => fun
  | [d1, d2, d3] => { results := [.lit (.bool true)], args := [d1, d2, d3] }
  | _ => none }
def deckNumbersRow : OpenClaim := { program := "ytdipbbcggccgcaa", sum := "c81d35cb553058164d5d666d0822ed4a79ba229f3c7a079c5d0908de1fad6219", func := "gameroom/gameroomlaw.DeckNumbers", spec := "deckNumbers", apart := false }
def DeckNumbersSaid : Prop := deckNumbersRow.holds Try.pinned (OpenSpec.ofChange deckNumbersSpec)

/-- ITS FALSE NEIGHBOUR: 'it returns false'. Refute it at one input. -/
def deckNumbersWrong : ChangeSpec := { name := "deckNumbers", fn := fun _ => fun
  | [d1, d2, d3] => { results := [.lit (.bool false)], args := [d1, d2, d3] }
  | _ => none }
def DeckNumbersWrongFalsely : Prop := deckNumbersRow.holds Try.pinned (OpenSpec.ofChange deckNumbersWrong)

/-- 'gameroomkeep.DeckBack': WHATEVER THE INPUT: true; the input reads as it did. -/
def deckBackSpec : ChangeSpec := { name := "deckBack", fn := fun _ => fun
  | [d1, d2, d3] => { results := [.lit (.bool true)], args := [d1, d2, d3] }
  | _ => none }
def deckBackRow : OpenClaim := { program := "ytdipbbcggccgcaa", sum := "c81d35cb553058164d5d666d0822ed4a79ba229f3c7a079c5d0908de1fad6219", func := "gameroom/gameroomkeep.DeckBack", spec := "deckBack", apart := false }
def DeckBackSaid : Prop := deckBackRow.holds Try.pinned (OpenSpec.ofChange deckBackSpec)

/-- ITS FALSE NEIGHBOUR: 'it returns false'. Refute it at one input. -/
def deckBackWrong : ChangeSpec := { name := "deckBack", fn := fun _ => fun
  | [d1, d2, d3] => { results := [.lit (.bool false)], args := [d1, d2, d3] }
  | _ => none }
def DeckBackWrongFalsely : Prop := deckBackRow.holds Try.pinned (OpenSpec.ofChange deckBackWrong)

/- THE SECOND FORM. 'bulk': how many values and letters a reading holds, each counted each time it is reached (what is shared counts as often as it is met; a slice's spare places count too). A statement '..UptoSaid' is the law's where the arguments, and the package variables that the reading takes, are together of bulk at most 1048576: NARROWER than '..Said'. Prove '..Said' where nothing that the law and all that it calls make is longer than what came in: it says more and counts as full. Else prove '..UptoSaid'. A law counts once. -/
mutual
def uptoBulk {H : Type} : DataW H → Nat
  | .lit (.string bytes) => bytes.length + 1
  | .lit _ => 1
  | .nil => 1
  | .ptr d => uptoBulk d + 1
  | .slice elems spare => uptoBulkAll elems + uptoBulkAll spare + 1
  | .agg parts => uptoBulkAll parts + 1
  | .iface _ d => uptoBulk d + 1
  | .map entries => uptoBulkEntries entries + 1
  | .held _ => 1
def uptoBulkAll {H : Type} : List (DataW H) → Nat
  | [] => 0
  | d :: r => uptoBulk d + uptoBulkAll r
def uptoBulkEntries {H : Type} : List (Lit × DataW H) → Nat
  | [] => 0
  | x :: r => uptoBulkEntry x + uptoBulkEntries r
def uptoBulkEntry {H : Type} : Lit × DataW H → Nat
  | (.string bytes, d) => bytes.length + uptoBulk d + 1
  | (_, d) => uptoBulk d + 1
 end
def uptoSmall : (H : Type) → List (DataW H) → Bool := fun _ ds => decide (uptoBulkAll ds ≤ 1048576)
def OpenSpec.upto (s : _root_.Go.ChangeSpec) : _root_.Go.OpenSpec := { _root_.Go.OpenSpec.ofChange s with cond := some uptoSmall }

/-- 'gameroomlaw.DeckCards', WHERE WHAT IT READS IS OF BULK AT MOST 1048576: true; the input reads as it did. -/
def deckCardsUptoRow : OpenClaim := { program := "ytdipbbcggccgcaa", sum := "c81d35cb553058164d5d666d0822ed4a79ba229f3c7a079c5d0908de1fad6219", func := "gameroom/gameroomlaw.DeckCards", spec := "deckCards", apart := false, narrowed := true }
def DeckCardsUptoSaid : Prop := deckCardsUptoRow.holds Try.pinned (OpenSpec.upto deckCardsSpec)

/-- 'gameroomlaw.DeckRiffles', WHERE WHAT IT READS IS OF BULK AT MOST 1048576: true; the input reads as it did. -/
def deckRifflesUptoRow : OpenClaim := { program := "ytdipbbcggccgcaa", sum := "c81d35cb553058164d5d666d0822ed4a79ba229f3c7a079c5d0908de1fad6219", func := "gameroom/gameroomlaw.DeckRiffles", spec := "deckRiffles", apart := false, narrowed := true }
def DeckRifflesUptoSaid : Prop := deckRifflesUptoRow.holds Try.pinned (OpenSpec.upto deckRifflesSpec)

/-- 'gameroomlaw.DeckOrders', WHERE WHAT IT READS IS OF BULK AT MOST 1048576: true; the input reads as it did. -/
def deckOrdersUptoRow : OpenClaim := { program := "ytdipbbcggccgcaa", sum := "c81d35cb553058164d5d666d0822ed4a79ba229f3c7a079c5d0908de1fad6219", func := "gameroom/gameroomlaw.DeckOrders", spec := "deckOrders", apart := false, narrowed := true }
def DeckOrdersUptoSaid : Prop := deckOrdersUptoRow.holds Try.pinned (OpenSpec.upto deckOrdersSpec)

/-- 'gameroomlaw.DeckDeals', WHERE WHAT IT READS IS OF BULK AT MOST 1048576: true; the input reads as it did. -/
def deckDealsUptoRow : OpenClaim := { program := "ytdipbbcggccgcaa", sum := "c81d35cb553058164d5d666d0822ed4a79ba229f3c7a079c5d0908de1fad6219", func := "gameroom/gameroomlaw.DeckDeals", spec := "deckDeals", apart := false, narrowed := true }
def DeckDealsUptoSaid : Prop := deckDealsUptoRow.holds Try.pinned (OpenSpec.upto deckDealsSpec)

/-- 'gameroomlaw.DeckNumbers', WHERE WHAT IT READS IS OF BULK AT MOST 1048576: true; the input reads as it did. -/
def deckNumbersUptoRow : OpenClaim := { program := "ytdipbbcggccgcaa", sum := "c81d35cb553058164d5d666d0822ed4a79ba229f3c7a079c5d0908de1fad6219", func := "gameroom/gameroomlaw.DeckNumbers", spec := "deckNumbers", apart := false, narrowed := true }
def DeckNumbersUptoSaid : Prop := deckNumbersUptoRow.holds Try.pinned (OpenSpec.upto deckNumbersSpec)

/-- 'gameroomkeep.DeckBack', WHERE WHAT IT READS IS OF BULK AT MOST 1048576: true; the input reads as it did. -/
def deckBackUptoRow : OpenClaim := { program := "ytdipbbcggccgcaa", sum := "c81d35cb553058164d5d666d0822ed4a79ba229f3c7a079c5d0908de1fad6219", func := "gameroom/gameroomkeep.DeckBack", spec := "deckBack", apart := false, narrowed := true }
def DeckBackUptoSaid : Prop := deckBackUptoRow.holds Try.pinned (OpenSpec.upto deckBackSpec)

end Rows
end Go.Proofs.Ytdipbbcggccgcaa
