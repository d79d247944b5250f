/-
  A table's checks, by the kernel. No conditions beyond those that each theorem bears.
-/
import Derived.Test.YticalbpohhpjaaaDoorTb
namespace Go.Proofs.YticalbpohhpjaaaDoor
set_option maxRecDepth 1000000

theorem st23_0 : ((List.range 11).drop 0).all (stepOK 2 3 6 tb23) = true := by decide +kernel
theorem st23_1 : ((List.range 15).drop 11).all (stepOK 2 3 6 tb23) = true := by decide +kernel
theorem st23_2 : ((List.range 18).drop 15).all (stepOK 2 3 6 tb23) = true := by decide +kernel
theorem st23_3 : ((List.range 22).drop 18).all (stepOK 2 3 6 tb23) = true := by decide +kernel
theorem st23 (k : Nat) (h : k < 22) : stepOK 2 3 6 tb23 k = true := by
  have key : ∀ lo hi, ((List.range hi).drop lo).all (stepOK 2 3 6 tb23) = true → lo ≤ k → k < hi → stepOK 2 3 6 tb23 k = true := fun lo hi h h1 h2 =>
    List.all_eq_true.1 h k (List.mem_drop_iff_getElem.2 ⟨k - lo, by simp; omega, by simp; omega⟩)
  rcases Nat.lt_or_ge k 11 with h1 | h1
  · exact key 0 11 st23_0 (by omega) h1
  rcases Nat.lt_or_ge k 15 with h2 | h2
  · exact key 11 15 st23_1 h1 h2
  rcases Nat.lt_or_ge k 18 with h3 | h3
  · exact key 15 18 st23_2 h2 h3
  · exact key 18 22 st23_3 h3 h

theorem wy23 : (List.range 21).all (wayOK 2 3 6 tb23) = true := by decide +kernel

end Go.Proofs.YticalbpohhpjaaaDoor
