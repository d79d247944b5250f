/-
  A table's checks, by the kernel. No conditions beyond those that each theorem bears.
-/
import Derived.Test.YticalbpohhpjaaaDoorTb
namespace Go.Proofs.YticalbpohhpjaaaDoor
set_option maxRecDepth 1000000

theorem od23_0 : ((List.range 180).drop 0).all (orderOK 2 3 6 tb23) = true := by decide +kernel
theorem od23_1 : ((List.range 360).drop 180).all (orderOK 2 3 6 tb23) = true := by decide +kernel
theorem od23_2 : ((List.range 540).drop 360).all (orderOK 2 3 6 tb23) = true := by decide +kernel
theorem od23_3 : ((List.range 720).drop 540).all (orderOK 2 3 6 tb23) = true := by decide +kernel
theorem od23 (k : Nat) (h : k < 720) : orderOK 2 3 6 tb23 k = true := by
  have key : ∀ lo hi, ((List.range hi).drop lo).all (orderOK 2 3 6 tb23) = true → lo ≤ k → k < hi → orderOK 2 3 6 tb23 k = true := fun lo hi h h1 h2 =>
    List.all_eq_true.1 h k (List.mem_drop_iff_getElem.2 ⟨k - lo, by simp; omega, by simp; omega⟩)
  rcases Nat.lt_or_ge k 180 with h1 | h1
  · exact key 0 180 od23_0 (by omega) h1
  rcases Nat.lt_or_ge k 360 with h2 | h2
  · exact key 180 360 od23_1 h1 h2
  rcases Nat.lt_or_ge k 540 with h3 | h3
  · exact key 360 540 od23_2 h2 h3
  · exact key 540 720 od23_3 h3 h

theorem pw23 : (mapT 6 tb23 21).Pairwise (fun p q => p.1 ≠ q.1) := by decide +kernel
theorem ln23 : tb23.length = 22 ∧ ((List.range 22).map fun k => (tb23.getD k []).length).sum = 360 ∧ ∀ k, k < 22 → 0 < (tb23.getD k []).length ∧ (tb23.getD k []).length ≤ 100 := by decide +kernel
theorem rt23 : rgs 2 3 6 0 = (mapT 6 tb23 0, ringT 6 tb23 0) := by decide +kernel
theorem nl23 : ringT 6 tb23 22 = [] := by decide +kernel
theorem hm23 : (tb23.getD 0 []).all (fun c => decide (dcD c = -1)) = true := by decide +kernel

end Go.Proofs.YticalbpohhpjaaaDoor
