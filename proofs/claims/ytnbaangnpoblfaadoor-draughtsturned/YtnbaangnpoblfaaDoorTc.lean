/-
  Draughts: how many rows there are from the beginning, by the kernel. No conditions beyond those that each theorem bears.
-/
import Derived.Test.YtnbaangnpoblfaaDoorDk0
import Derived.Test.YtnbaangnpoblfaaDoorNe
namespace Go.Proofs.YtnbaangnpoblfaaDoor

theorem st0_mb : Mb st0 ((1 : Nat) : Int) := (mayD_iff st0 1).1 (by decide +kernel)
theorem cn1 : cntR 1 st0 1 = 7 := by decide +kernel
theorem cn2 : cntR 2 st0 1 = 49 := by decide +kernel
theorem cn3 : cntR 3 st0 1 = 302 := by decide +kernel

end Go.Proofs.YtnbaangnpoblfaaDoor
