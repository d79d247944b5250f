/-
  Counting comparisons. No conditions beyond those that each theorem bears.
-/
import Derived.Test.YtonmgbepkdlklaaSums
import Derived.Test.YtonmgbepkdlklaaSumW
import Derived.Test.YtonmgbepkdlklaaDuel
namespace Go.Proofs.Ytonmgbepkdlklaa
open Go.RowKit

def rowC (A B : List Int) (v : Int) (i k : Nat) : Nat := sumTo (fun q => if Lib.compareInt (A.getD i 0) (B.getD q 0) = v then 1 else 0) k
def allC (A B : List Int) (v : Int) (i : Nat) : Nat := sumTo (fun q => rowC A B v q B.length) i

theorem dN_all (A B : List Int) (p : Nat) : dN A B p = allC A B (-1 + (p : Int)) A.length := rfl

theorem rowC_le (A B : List Int) (v : Int) (i k : Nat) : rowC A B v i k ≤ k := by
  have := sumTo_le (g := fun q => if Lib.compareInt (A.getD i 0) (B.getD q 0) = v then 1 else 0) 1 k (fun x _ => by split <;> omega)
  unfold rowC
  omega

theorem allC_le (A B : List Int) (v : Int) (i : Nat) : allC A B v i ≤ i * B.length := sumTo_le _ _ (fun x _ => rowC_le A B v x _)

theorem rowC_same (A B : List Int) (v z : Int) (i k : Nat) (h : Lib.compareInt (A.getD i 0) (B.getD k 0) = z) (hv : z ≠ v) : rowC A B v i (k + 1) = rowC A B v i k := by
  show rowC A B v i k + (if Lib.compareInt (A.getD i 0) (B.getD k 0) = v then 1 else 0) = _
  rw [h, if_neg hv]; rfl

theorem rowC_more (A B : List Int) (v : Int) (i k : Nat) (h : Lib.compareInt (A.getD i 0) (B.getD k 0) = v) : rowC A B v i (k + 1) = rowC A B v i k + 1 := by
  show rowC A B v i k + (if Lib.compareInt (A.getD i 0) (B.getD k 0) = v then 1 else 0) = _
  rw [h, if_pos rfl]

end Go.Proofs.Ytonmgbepkdlklaa
