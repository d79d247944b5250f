/-
  No cell of these rows narrows 'for every input' (looked for: loops, veiled, ifaces, maps, wideKeys, modest, calm, conditions, laid).
  DERIVED. THE GIVEN ROWS OF THIS SEAT. 5 by the template 'for every input the law returns true; each argument reads behind the call as it read before'; 0 by the template 'total and deterministic' (their statements: YtonmgbepkdlklaaTotals.lean).
  GIVEN WITH THE SEED: the statements are not yours to turn. If you find one false, say at which input.
  Laid BY PROGRAM, IN A SANDBOX (cutbox-rows.mjs): the forced cells as the released guide's own fill.sh prints them over the translation 8bbb5c5d00cbf593… (all of the seat's roots in one cut). By AI agents, Wed Nov 11 2026. No macro, syntax, notation, axiom, sorry.
-/
import Derived.Test.YtonmgbepkdlklaaChecked
import GoSem.Claim
import GoSem.ClaimJoined
import GoSem.ClaimMapViews
import Derived.JoinedTies
import Derived.KernelRfl
namespace Go.Proofs.Ytonmgbepkdlklaa
/- THE CELL 'sum', in the pinned program and in every row, IS THE sha256 OF THE DUMP (.gsa) THAT YtonmgbepkdlklaaProg.lean LOADS. Nothing in Lean hashes anything: it is a label: what it is worth is what the hold of that sum in a sandbox is worth. -/
noncomputable def Try.pinned : Pinned := { name := "ytonmgbepkdlklaa", sum := "8bbb5c5d00cbf5930f72c046d8f183cf425ef05048d92d8fcf5ba2cd404d418c", checked := Try.checked }
namespace Rows
def none {H : Type} : Left H := { results := [], args := [] }

/-- 'gameroomlaw.DiceSums': WHATEVER THE INPUT: true; the input reads as it did. -/
def diceSumsSpec : ChangeSpec := { name := "diceSums", fn := fun _ => fun
  | [d1, d2, d3] => { results := [.lit (.bool true)], args := [d1, d2, d3] }
  | _ => none }
def diceSumsRow : OpenClaim := { program := "ytonmgbepkdlklaa", sum := "8bbb5c5d00cbf5930f72c046d8f183cf425ef05048d92d8fcf5ba2cd404d418c", func := "gameroom/gameroomlaw.DiceSums", spec := "diceSums", unfollowed := true, recurses := true, apart := false }
def DiceSumsSaid : Prop := diceSumsRow.holds Try.pinned (OpenSpec.ofChange diceSumsSpec)

/-- ITS FALSE NEIGHBOUR: 'it returns false'. Refute it at one input. -/
def diceSumsWrong : ChangeSpec := { name := "diceSums", fn := fun _ => fun
  | [d1, d2, d3] => { results := [.lit (.bool false)], args := [d1, d2, d3] }
  | _ => none }
def DiceSumsWrongFalsely : Prop := diceSumsRow.holds Try.pinned (OpenSpec.ofChange diceSumsWrong)

/-- 'gameroomlaw.DiceKeeps': WHATEVER THE INPUT: true; the input reads as it did. -/
def diceKeepsSpec : ChangeSpec := { name := "diceKeeps", fn := fun _ => fun
  | [d1, d2, d3] => { results := [.lit (.bool true)], args := [d1, d2, d3] }
  | _ => none }
def diceKeepsRow : OpenClaim := { program := "ytonmgbepkdlklaa", sum := "8bbb5c5d00cbf5930f72c046d8f183cf425ef05048d92d8fcf5ba2cd404d418c", func := "gameroom/gameroomlaw.DiceKeeps", spec := "diceKeeps", unfollowed := true, recurses := true, apart := false }
def DiceKeepsSaid : Prop := diceKeepsRow.holds Try.pinned (OpenSpec.ofChange diceKeepsSpec)

/-- ITS FALSE NEIGHBOUR: 'it returns false'. Refute it at one input. -/
def diceKeepsWrong : ChangeSpec := { name := "diceKeeps", fn := fun _ => fun
  | [d1, d2, d3] => { results := [.lit (.bool false)], args := [d1, d2, d3] }
  | _ => none }
def DiceKeepsWrongFalsely : Prop := diceKeepsRow.holds Try.pinned (OpenSpec.ofChange diceKeepsWrong)

/-- 'gameroomlaw.DiceExplodes': WHATEVER THE INPUT: true; the input reads as it did. -/
def diceExplodesSpec : ChangeSpec := { name := "diceExplodes", fn := fun _ => fun
  | [d1, d2] => { results := [.lit (.bool true)], args := [d1, d2] }
  | _ => none }
def diceExplodesRow : OpenClaim := { program := "ytonmgbepkdlklaa", sum := "8bbb5c5d00cbf5930f72c046d8f183cf425ef05048d92d8fcf5ba2cd404d418c", func := "gameroom/gameroomlaw.DiceExplodes", spec := "diceExplodes", unfollowed := true, recurses := true, apart := false }
def DiceExplodesSaid : Prop := diceExplodesRow.holds Try.pinned (OpenSpec.ofChange diceExplodesSpec)

/-- ITS FALSE NEIGHBOUR: 'it returns false'. Refute it at one input. -/
def diceExplodesWrong : ChangeSpec := { name := "diceExplodes", fn := fun _ => fun
  | [d1, d2] => { results := [.lit (.bool false)], args := [d1, d2] }
  | _ => none }
def DiceExplodesWrongFalsely : Prop := diceExplodesRow.holds Try.pinned (OpenSpec.ofChange diceExplodesWrong)

/-- 'gameroomkeep.DiceAll': WHATEVER THE INPUT: true; the input reads as it did. -/
def diceAllSpec : ChangeSpec := { name := "diceAll", fn := fun _ => fun
  | [d1, d2, d3] => { results := [.lit (.bool true)], args := [d1, d2, d3] }
  | _ => none }
def diceAllRow : OpenClaim := { program := "ytonmgbepkdlklaa", sum := "8bbb5c5d00cbf5930f72c046d8f183cf425ef05048d92d8fcf5ba2cd404d418c", func := "gameroom/gameroomkeep.DiceAll", spec := "diceAll", unfollowed := true, recurses := true, apart := false }
def DiceAllSaid : Prop := diceAllRow.holds Try.pinned (OpenSpec.ofChange diceAllSpec)

/-- ITS FALSE NEIGHBOUR: 'it returns false'. Refute it at one input. -/
def diceAllWrong : ChangeSpec := { name := "diceAll", fn := fun _ => fun
  | [d1, d2, d3] => { results := [.lit (.bool false)], args := [d1, d2, d3] }
  | _ => none }
def DiceAllWrongFalsely : Prop := diceAllRow.holds Try.pinned (OpenSpec.ofChange diceAllWrong)

/-- 'gameroomkeep.DiceRing': WHATEVER THE INPUT: true; the input reads as it did. -/
def diceRingSpec : ChangeSpec := { name := "diceRing", fn := fun _ => fun
  | [d1, d2] => { results := [.lit (.bool true)], args := [d1, d2] }
  | _ => none }
def diceRingRow : OpenClaim := { program := "ytonmgbepkdlklaa", sum := "8bbb5c5d00cbf5930f72c046d8f183cf425ef05048d92d8fcf5ba2cd404d418c", func := "gameroom/gameroomkeep.DiceRing", spec := "diceRing", unfollowed := true, recurses := true, apart := false }
def DiceRingSaid : Prop := diceRingRow.holds Try.pinned (OpenSpec.ofChange diceRingSpec)

/-- ITS FALSE NEIGHBOUR: 'it returns false'. Refute it at one input. -/
def diceRingWrong : ChangeSpec := { name := "diceRing", fn := fun _ => fun
  | [d1, d2] => { results := [.lit (.bool false)], args := [d1, d2] }
  | _ => none }
def DiceRingWrongFalsely : Prop := diceRingRow.holds Try.pinned (OpenSpec.ofChange diceRingWrong)

/- THE SECOND FORM. 'bulk': how many values and letters a reading holds, each counted each time it is reached (what is shared counts as often as it is met; a slice's spare places count too). A statement '..UptoSaid' is the law's where the arguments, and the package variables that the reading takes, are together of bulk at most 1048576: NARROWER than '..Said'. Prove '..Said' where nothing that the law and all that it calls make is longer than what came in: it says more and counts as full. Else prove '..UptoSaid'. A law counts once. -/
mutual
def uptoBulk {H : Type} : DataW H → Nat
  | .lit (.string bytes) => bytes.length + 1
  | .lit _ => 1
  | .nil => 1
  | .ptr d => uptoBulk d + 1
  | .slice elems spare => uptoBulkAll elems + uptoBulkAll spare + 1
  | .agg parts => uptoBulkAll parts + 1
  | .iface _ d => uptoBulk d + 1
  | .map entries => uptoBulkEntries entries + 1
  | .held _ => 1
def uptoBulkAll {H : Type} : List (DataW H) → Nat
  | [] => 0
  | d :: r => uptoBulk d + uptoBulkAll r
def uptoBulkEntries {H : Type} : List (Lit × DataW H) → Nat
  | [] => 0
  | x :: r => uptoBulkEntry x + uptoBulkEntries r
def uptoBulkEntry {H : Type} : Lit × DataW H → Nat
  | (.string bytes, d) => bytes.length + uptoBulk d + 1
  | (_, d) => uptoBulk d + 1
 end
def uptoSmall : (H : Type) → List (DataW H) → Bool := fun _ ds => decide (uptoBulkAll ds ≤ 1048576)
def OpenSpec.upto (s : _root_.Go.ChangeSpec) : _root_.Go.OpenSpec := { _root_.Go.OpenSpec.ofChange s with cond := some uptoSmall }

/-- 'gameroomlaw.DiceSums', WHERE WHAT IT READS IS OF BULK AT MOST 1048576: true; the input reads as it did. -/
def diceSumsUptoRow : OpenClaim := { program := "ytonmgbepkdlklaa", sum := "8bbb5c5d00cbf5930f72c046d8f183cf425ef05048d92d8fcf5ba2cd404d418c", func := "gameroom/gameroomlaw.DiceSums", spec := "diceSums", unfollowed := true, recurses := true, apart := false, narrowed := true }
def DiceSumsUptoSaid : Prop := diceSumsUptoRow.holds Try.pinned (OpenSpec.upto diceSumsSpec)

/-- 'gameroomlaw.DiceKeeps', WHERE WHAT IT READS IS OF BULK AT MOST 1048576: true; the input reads as it did. -/
def diceKeepsUptoRow : OpenClaim := { program := "ytonmgbepkdlklaa", sum := "8bbb5c5d00cbf5930f72c046d8f183cf425ef05048d92d8fcf5ba2cd404d418c", func := "gameroom/gameroomlaw.DiceKeeps", spec := "diceKeeps", unfollowed := true, recurses := true, apart := false, narrowed := true }
def DiceKeepsUptoSaid : Prop := diceKeepsUptoRow.holds Try.pinned (OpenSpec.upto diceKeepsSpec)

/-- 'gameroomlaw.DiceExplodes', WHERE WHAT IT READS IS OF BULK AT MOST 1048576: true; the input reads as it did. -/
def diceExplodesUptoRow : OpenClaim := { program := "ytonmgbepkdlklaa", sum := "8bbb5c5d00cbf5930f72c046d8f183cf425ef05048d92d8fcf5ba2cd404d418c", func := "gameroom/gameroomlaw.DiceExplodes", spec := "diceExplodes", unfollowed := true, recurses := true, apart := false, narrowed := true }
def DiceExplodesUptoSaid : Prop := diceExplodesUptoRow.holds Try.pinned (OpenSpec.upto diceExplodesSpec)

/-- 'gameroomkeep.DiceAll', WHERE WHAT IT READS IS OF BULK AT MOST 1048576: true; the input reads as it did. -/
def diceAllUptoRow : OpenClaim := { program := "ytonmgbepkdlklaa", sum := "8bbb5c5d00cbf5930f72c046d8f183cf425ef05048d92d8fcf5ba2cd404d418c", func := "gameroom/gameroomkeep.DiceAll", spec := "diceAll", unfollowed := true, recurses := true, apart := false, narrowed := true }
def DiceAllUptoSaid : Prop := diceAllUptoRow.holds Try.pinned (OpenSpec.upto diceAllSpec)

/-- 'gameroomkeep.DiceRing', WHERE WHAT IT READS IS OF BULK AT MOST 1048576: true; the input reads as it did. -/
def diceRingUptoRow : OpenClaim := { program := "ytonmgbepkdlklaa", sum := "8bbb5c5d00cbf5930f72c046d8f183cf425ef05048d92d8fcf5ba2cd404d418c", func := "gameroom/gameroomkeep.DiceRing", spec := "diceRing", unfollowed := true, recurses := true, apart := false, narrowed := true }
def DiceRingUptoSaid : Prop := diceRingUptoRow.holds Try.pinned (OpenSpec.upto diceRingSpec)

end Rows
end Go.Proofs.Ytonmgbepkdlklaa
