/-
  A move adds one sign and turns one at least, mirrored boards have mirrored places: what is needed of each. No conditions beyond those that each theorem bears.
-/
import Derived.Test.YtkmghlmniahgbaaDoorMiO
import Derived.Test.YtkmghlmniahgbaaDoorDeL
namespace Go.Proofs.YtkmghlmniahgbaaDoor
open Go.RowKit

theorem sps_start : sps 4 4 (st0 2 2) 1 = [1, 4, 11, 14] := by decide +kernel

theorem Places_four (cb cc : Nat) (w : World) (hT : DTab w) (hTz : TzT w) (h : Rd w (some ⟨cb, 0, none⟩) 16 cc (st0 2 2)) : Calls Tryd.prog 9 #[.agg (gdA 4 4 (some ⟨cb, 0, none⟩) 16 cc), .int .i64 1] w fun e w' => ∃ a' c', e = .returned (.tuple #[.slice a' 4 c', .int .i64 0]) ∧ Rd w' a' 4 c' [1, 4, 11, 14] ∧ Below w.heap.size w w' := by
  have := Places_yes 4 4 (some ⟨cb, 0, none⟩) 16 cc (st0 2 2) 1 w hT hTz h st0_og (Or.inl rfl)
  rw [sps_start] at this
  refine Calls.mono this ?_
  rintro e w' ⟨a', c', e1, e2, e3⟩
  exact ⟨a', c', e1, Rd.of_own e2, e3⟩

/-- How many are turned among the first k places. -/
def tc (Z Y : List Int) (p k : Nat) : Nat := ((List.range k).filter fun q => decide (q ≠ p ∧ Y.getD q 0 ≠ Z.getD q 0)).length
theorem tc_zero (Z Y : List Int) (p : Nat) : tc Z Y p 0 = 0 := rfl
theorem tc_succ (Z Y : List Int) (p k : Nat) : tc Z Y p (k + 1) = tc Z Y p k + if k ≠ p ∧ Y.getD k 0 ≠ Z.getD k 0 then 1 else 0 := by
  unfold tc
  rw [List.range_succ, List.filter_append, List.length_append]
  simp only [List.filter_cons, List.filter_nil, decide_eq_true_eq]
  split <;> rfl
theorem tc_pos {Z Y : List Int} {p n k : Nat} (hk : k < n) (h : k ≠ p ∧ Y.getD k 0 ≠ Z.getD k 0) : 1 ≤ tc Z Y p n := by
  unfold tc
  exact List.length_pos_of_mem (a := k) (List.mem_filter.2 ⟨List.mem_range.2 hk, decide_eq_true h⟩)

end Go.Proofs.YtkmghlmniahgbaaDoor
