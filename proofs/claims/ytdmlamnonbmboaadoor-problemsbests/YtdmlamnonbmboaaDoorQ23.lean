/-
  Chess: sets of places without some: what is free to leave its place. No conditions beyond those that each theorem bears.
-/
import Derived.Test.YtdmlamnonbmboaaDoorQ22
namespace Go.Proofs.YtdmlamnonbmboaaDoor
open Go.RowKit Go.Shelf

theorem msk_not (p : Nat → Bool) {y : Nat} (hy : y < 64) : msk p 64 &&& (18446744073709551615 - 2 ^ y) = msk (fun j => p j && j != y) 64 := by
  have h1 : 18446744073709551615 - 2 ^ y = 2 ^ 64 - (2 ^ y + 1) := by rw [p64]; omega
  have h2 : 2 ^ y < 2 ^ 64 := Nat.pow_lt_pow_right (by omega) hy
  refine msk_ext (Nat.lt_of_le_of_lt Nat.and_le_left (msk_lt p 64 (by omega))) (fun j hj => ?_)
  rw [h1, Nat.testBit_and, msk_bit, Nat.testBit_two_pow_sub_succ h2, Nat.testBit_two_pow, decide_eq_true hj]
  by_cases e : y = j
  · subst e; simp
  · simp [e, Ne.symm e]
theorem andNot_msk (p : Nat → Bool) {y : Nat} (hy : y < 64) : bits BinOp.andNot .u64 ((msk p 64 : Nat) : Int) ((2 ^ y : Nat) : Int) = ((msk (fun j => p j && j != y) 64 : Nat) : Int) := by
  rw [u64_andNot_nat _ _ (msk_lt' p 64 (by omega)) (pow_lt64 hy), msk_not p hy]

/-- One's own pieces but those that are named. -/
def frS (Z : List Int) (t K : Nat) (s : List Nat) (q : Nat) : Bool := ownB Z t q && q != K && !(decide (q ∈ s))
theorem frS_nil (Z : List Int) (t K : Nat) : msk (frS Z t K []) 64 = msk (fun j => ownB Z t j && j != K) 64 := msk_congr (fun j _ => by unfold frS; simp)
theorem frS_snoc (Z : List Int) (t K : Nat) (s : List Nat) (y : Nat) : msk (frS Z t K (s ++ [y])) 64 = msk (fun j => frS Z t K s j && j != y) 64 := msk_congr (fun j _ => by
  unfold frS
  by_cases e : j = y
  · subst e; simp
  · have : (j != y) = true := by simp [e]
    simp [e, this])
theorem frS_one {Z : List Int} {t K : Nat} {e : Int} (h0 : atk Z K (1 - t) = []) (he : e = -1) : msk (frS Z t K (rch Z 5 K)) 64 = msk (fun q => ownB Z t q && frB Z t e K q) 64 := msk_congr (fun j _ => by
  unfold frS frB
  rw [decide_eq_true h0, decide_eq_true he]
  cases ownB Z t j <;> simp)
theorem frS_two {Z : List Int} {t K : Nat} {e : Int} (h0 : atk Z K (1 - t) = []) (he : e ≠ -1) : msk (frS Z t K (rch Z 5 K ++ rch Z (pc (1 - t) 1) e.toNat)) 64 = msk (fun q => ownB Z t q && frB Z t e K q) 64 := msk_congr (fun j _ => by
  unfold frS frB
  rw [decide_eq_true h0, decide_eq_false he]
  cases ownB Z t j <;> simp [Bool.and_assoc])
theorem frS_no {Z : List Int} {t K : Nat} {e : Int} (h0 : atk Z K (1 - t) ≠ []) : msk (fun q => ownB Z t q && frB Z t e K q) 64 = 0 := (msk_ext (by decide) (fun j _ => by
  unfold frB
  rw [decide_eq_false h0]
  simp)).symm

end Go.Proofs.YtdmlamnonbmboaaDoor
