/-
  The reference's value of a hand, as a function of how often each rank is there and of whether it is a flush. No conditions beyond those that each theorem bears.
-/
import Derived.Test.YtdhacmcdbpojlaaFaces2
namespace Go.Proofs.Ytdhacmcdbpojlaa
open Go.RowKit Go.Shelf

def sgAt (T : List Nat) (times : Nat) : Nat → List Nat
  | 0 => []
  | j + 1 => sgAt T times j ++ (if T.getD (12 - j) 0 = times then [12 - j] else [])
def sgUp (T : List Nat) : Nat → List Nat
  | 0 => []
  | i + 1 => sgUp T i ++ sgAt T (4 - i) 13
def isStr (T : List Nat) (r : Nat) : Nat → Bool
  | 0 => true
  | k + 1 => isStr T r k && decide (T.getD ((r + 13 - k) % 13) 0 = 1)
def topUp (T : List Nat) : Nat → Int
  | 0 => -1
  | i + 1 => if isStr T (3 + i) 5 = true then ((3 + i : Nat) : Int) else topUp T i
def clsR (fl : Bool) (top : Int) (m0 m1 : Nat) : Nat :=
  if 0 ≤ top ∧ fl = true then 8 else if m0 = 4 then 7 else if m0 = 3 ∧ m1 = 2 then 6 else if fl = true then 5 else if 0 ≤ top then 4 else if m0 = 3 then 3 else if m0 = 2 ∧ m1 = 2 then 2 else if m0 = 2 then 1 else 0
def pad5 (l : List Nat) : List Nat := l ++ List.replicate (5 - l.length) 0
def refF (fl : Bool) (T : List Nat) : Nat :=
  digits (clsR fl (topUp T 10) (T.getD ((sgUp T 4).getD 0 0) 0) (T.getD ((sgUp T 4).getD 1 0) 0)) (pad5 (if 0 ≤ topUp T 10 then [(topUp T 10).toNat] else sgUp T 4))

/-- What the walk asks of how often each rank is there. -/
structure GoodT (T : List Nat) : Prop where
  len : T.length = 13
  le : ∀ r, T.getD r 0 ≤ 5
  pos : 0 < (sgUp T 4).length
  five : (sgUp T 4).length ≤ 5
  two : T.getD ((sgUp T 4).getD 0 0) 0 = 3 ∨ T.getD ((sgUp T 4).getD 0 0) 0 = 2 → 1 < (sgUp T 4).length
  lt : ∀ s ∈ sgUp T 4, s < 13

def mny (h : List Nat) : List Nat := (List.range 13).map (cntR h)


end Go.Proofs.Ytdhacmcdbpojlaa
