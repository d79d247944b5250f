/-
  The document's own count of the means of at most three men, as numbers. No conditions beyond those that each theorem bears.
-/
import Derived.Test.YtmboikpcbkiepaaThrowsLaw
namespace Go.Proofs.Ytmboikpcbkiepaa
open Go.RowKit Go.Maps

/-- The mean in parts of 36 to the seventh. -/
def v7 (m : List Nat) : Nat := vl m / 1296

/-- The least that is still needed behind steps of so many pips each; of none: 0. -/
def rfL : List Nat → List Nat → Nat
  | [], m => v7 m
  | p :: ps, m => if Nat.beq (pip m) 0 then 0 else ((aftL [m] p).foldl (fun a z => match a with | none => some (rfL ps z) | some b => some (min b (rfL ps z))) none).getD 0

/-- One throw. -/
def rf1 (m : List Nat) (x y : Nat) : Nat := if Nat.beq x y then rfL [x, x, x, x] m else min (rfL [x, y] m) (rfL [y, x] m)

def rfRow (m : List Nat) (x : Nat) : Nat → Nat
  | 0 => 0
  | k + 1 => rfRow m x k + rf1 m x (k + 1)

def rfSum (m : List Nat) : Nat → Nat
  | 0 => 0
  | k + 1 => rfSum m k + rfRow m (k + 1) 6

def one7 : Nat := 78364164096

set_option maxRecDepth 100000 in
theorem rf_tab : (Ms.all fun m => if Nat.beq (pip m) 0 then Nat.beq (v7 m) 0 else Nat.beq (v7 m) (one7 + rfSum m 6 / 36) && Nat.beq (vl m) (1296 * v7 m)) = true := by decide +kernel

/-- As often as both can be divided by d. -/
def dv : Nat → Nat → Nat → Nat → Nat × Nat
  | 0, _, a, b => (a, b)
  | k + 1, d, a, b => if Nat.beq (a % d) 0 && Nat.beq (b % d) 0 then dv k d (a / d) (b / d) else (a, b)

set_option maxRecDepth 100000 in
theorem dv_tab : (Ms.all fun m => decide (dv 40 3 (dv 40 2 (v7 m) one7).1 (dv 40 2 (v7 m) one7).2 = (rA m, rB m))) = true := by decide +kernel

end Go.Proofs.Ytmboikpcbkiepaa
