/-
  A table's checks, by the kernel. No conditions beyond those that each theorem bears.
-/
import Derived.Test.YticalbpohhpjaaaDoorTb
namespace Go.Proofs.YticalbpohhpjaaaDoor
set_option maxRecDepth 1000000

theorem od32_0 : ((List.range 180).drop 0).all (orderOK 3 2 6 tb32) = true := by decide +kernel
theorem od32_1 : ((List.range 360).drop 180).all (orderOK 3 2 6 tb32) = true := by decide +kernel
theorem od32_2 : ((List.range 540).drop 360).all (orderOK 3 2 6 tb32) = true := by decide +kernel
theorem od32_3 : ((List.range 720).drop 540).all (orderOK 3 2 6 tb32) = true := by decide +kernel
theorem od32 (k : Nat) (h : k < 720) : orderOK 3 2 6 tb32 k = true := by
  have key : ∀ lo hi, ((List.range hi).drop lo).all (orderOK 3 2 6 tb32) = true → lo ≤ k → k < hi → orderOK 3 2 6 tb32 k = true := fun lo hi h h1 h2 =>
    List.all_eq_true.1 h k (List.mem_drop_iff_getElem.2 ⟨k - lo, by simp; omega, by simp; omega⟩)
  rcases Nat.lt_or_ge k 180 with h1 | h1
  · exact key 0 180 od32_0 (by omega) h1
  rcases Nat.lt_or_ge k 360 with h2 | h2
  · exact key 180 360 od32_1 h1 h2
  rcases Nat.lt_or_ge k 540 with h3 | h3
  · exact key 360 540 od32_2 h2 h3
  · exact key 540 720 od32_3 h3 h

theorem pw32 : (mapT 6 tb32 21).Pairwise (fun p q => p.1 ≠ q.1) := by decide +kernel
theorem ln32 : tb32.length = 22 ∧ ((List.range 22).map fun k => (tb32.getD k []).length).sum = 360 ∧ ∀ k, k < 22 → 0 < (tb32.getD k []).length ∧ (tb32.getD k []).length ≤ 100 := by decide +kernel
theorem rt32 : rgs 3 2 6 0 = (mapT 6 tb32 0, ringT 6 tb32 0) := by decide +kernel
theorem nl32 : ringT 6 tb32 22 = [] := by decide +kernel
theorem hm32 : (tb32.getD 0 []).all (fun c => decide (dcD c = -1)) = true := by decide +kernel

end Go.Proofs.YticalbpohhpjaaaDoor
