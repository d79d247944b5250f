/-
  Chess: the places between two, one by one. No conditions beyond those that each theorem bears.
-/
import Derived.Test.YtdblmcihklcenaaDoorKg
namespace Go.Proofs.YtdblmcihklcenaaDoor
set_option maxRecDepth 20000

/-- How many steps a place is away. -/
def jz (f t q : Nat) : Nat := ((List.range 8).takeWhile fun j => !(Nat.beq (bt f t j) q)).length

theorem tab_K : ((List.range 64).all fun f => (List.range 64).all fun t => (decide (dX f t = 0) && decide (dY f t = 0)) || !(slant f t || strai f t) || (Nat.ble 1 (mD f t) && Nat.ble (mD f t) 7 && (List.range (mD f t)).all fun j => decide (((bt f t j : Nat) : Int) = (f : Int) + ((j : Int) + 1) * sD f t) && Nat.blt (bt f t j) 64 && (Nat.beq (bt f t j) t == Nat.beq (j + 1) (mD f t)) && Nat.beq (jz f t (bt f t j)) j)) = true := by decide +kernel

theorem mD_bd {f t : Nat} (hf : f < 64) (ht : t < 64) (hne : ¬ (dX f t = 0 ∧ dY f t = 0)) (ha : (slant f t || strai f t) = true) : 1 ≤ mD f t ∧ mD f t ≤ 7 ∧
    ∀ j, j < mD f t → ((bt f t j : Nat) : Int) = (f : Int) + ((j : Int) + 1) * sD f t ∧ bt f t j < 64 ∧ (bt f t j = t ↔ j + 1 = mD f t) ∧ jz f t (bt f t j) = j := by
  have h := all64 (all64 tab_K hf) ht
  have hn : (decide (dX f t = 0) && decide (dY f t = 0)) = false := by
    by_cases h1 : dX f t = 0 <;> by_cases h2 : dY f t = 0 <;> simp [h1, h2] at hne ⊢
  rw [hn, ha] at h
  simp only [Bool.not_true, Bool.or_self, Bool.false_or, Bool.and_eq_true] at h
  obtain ⟨⟨h1, h2⟩, h3⟩ := h
  refine ⟨Nat.le_of_ble_eq_true h1, Nat.le_of_ble_eq_true h2, fun j hj => ?_⟩
  have h4 := allN h3 hj
  simp only [Bool.and_eq_true, decide_eq_true_eq, beq_iff_eq] at h4
  obtain ⟨⟨⟨a1, a2⟩, a3⟩, a4⟩ := h4
  refine ⟨a1, Nat.blt_eq ▸ a2, ?_, Nat.eq_of_beq_eq_true a4⟩
  constructor
  · intro e
    rw [e] at a3
    rw [Nat.beq_refl] at a3
    exact Nat.eq_of_beq_eq_true a3.symm
  · intro e
    rw [e, Nat.beq_refl] at a3
    exact Nat.eq_of_beq_eq_true a3

theorem bt_succ {f t j : Nat} (hf : f < 64) (ht : t < 64) (hne : ¬ (dX f t = 0 ∧ dY f t = 0)) (ha : (slant f t || strai f t) = true) (hj : j + 1 < mD f t) : ((bt f t j : Nat) : Int) + sD f t = ((bt f t (j + 1) : Nat) : Int) := by
  obtain ⟨-, -, h⟩ := mD_bd hf ht hne ha
  rw [(h j (by omega)).1, (h (j + 1) hj).1, Int.natCast_succ, Int.add_mul ((j : Int) + 1) 1, Int.one_mul]
  omega

theorem bt_zero {f t : Nat} (hf : f < 64) (ht : t < 64) (hne : ¬ (dX f t = 0 ∧ dY f t = 0)) (ha : (slant f t || strai f t) = true) : (f : Int) + sD f t = ((bt f t 0 : Nat) : Int) := by
  obtain ⟨h1, -, h⟩ := mD_bd hf ht hne ha
  rw [(h 0 (by omega)).1]
  simp

theorem sg_bd (x : Int) : -1 ≤ sg x ∧ sg x ≤ 1 := by
  unfold sg
  split
  · omega
  · split <;> omega

theorem dXY_bd {f t : Nat} (hf : f < 64) (ht : t < 64) : -7 ≤ dX f t ∧ dX f t ≤ 7 ∧ -7 ≤ dY f t ∧ dY f t ≤ 7 := by
  unfold dX dY
  omega

theorem mul_bd {x y : Int} (hx : -7 ≤ x ∧ x ≤ 7) (hy : -7 ≤ y ∧ y ≤ 7) : -49 ≤ x * y ∧ x * y ≤ 49 := by
  have h : (x * y).natAbs ≤ 7 * 7 := by
    rw [Int.natAbs_mul]
    exact Nat.mul_le_mul (by omega) (by omega)
  omega

/-- So far nothing is in the way. -/
theorem btw_end {Z : List Int} {f t j : Nat} (hj : j + 1 = mD f t) (h : ∀ i, i < j → zg Z (bt f t i) = 0) : ((btw f t).all fun k => zg Z k == 0) = true := by
  rw [List.all_eq_true]
  intro k hk
  simp only [btw, List.mem_map, List.mem_range] at hk
  obtain ⟨i, hi, rfl⟩ := hk
  simpa using h i (by omega)
theorem btw_no {Z : List Int} {f t j : Nat} (hj : j + 1 < mD f t) (h : zg Z (bt f t j) ≠ 0) : ((btw f t).all fun k => zg Z k == 0) = false := by
  rw [Bool.eq_false_iff]
  intro e
  rw [List.all_eq_true] at e
  have := e (bt f t j) (by simp only [btw, List.mem_map, List.mem_range]; exact ⟨j, by omega, rfl⟩)
  exact h (by simpa using this)

end Go.Proofs.YtdblmcihklcenaaDoor
