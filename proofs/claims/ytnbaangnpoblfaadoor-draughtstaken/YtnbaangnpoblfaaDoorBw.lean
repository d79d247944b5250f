/-
  Package bits and places, walked: bits turned round, their number, the lowest one; a step in a direction; a place's bit. No conditions beyond those that each theorem bears.
-/
import Derived.Test.YtnbaangnpoblfaaDoorDm
import Derived.Test.YtnbaangnpoblfaaDoorIt
import Derived.Laws.Bits64b
import Derived.Laws.BitsAllLaws
namespace Go.Proofs.YtnbaangnpoblfaaDoor
open Go.RowKit

theorem wrap_nat {x : Nat} (h : x < 18446744073709551616) : IntKind.u64.wrap (x : Int) = (x : Int) := by rw [IntKind.wrap_u64]; omega

theorem p64 : (2 : Nat) ^ 64 = 18446744073709551616 := rfl

theorem and_le_r (a b : Nat) : a &&& b ≤ b := Nat.and_le_right

theorem low7 {x R : Nat} (hv : x % 128 = R) : bits BinOp.and IntKind.i64 (wrap64 (x : Int)) 127 = (R : Int) := by
  rw [i64_and127]; unfold wrap64; omega

set_option maxRecDepth 100000 in
set_option maxHeartbeats 1000000 in
theorem ones_any (m : Nat) (hm : m < 2 ^ 64) (w : World) :
    Calls Tryd.prog 91 #[.int .u64 m] w fun e w' => e = .returned (.int .i64 ((bln m 64).length : Nat)) ∧ w' = w := by
  have H := ones_is m hm
  rw [p64] at hm
  obtain ⟨x1, h1⟩ : ∃ x1, (m / 2 &&& 6148914691236517205) + (m &&& 6148914691236517205) = x1 := ⟨_, rfl⟩
  obtain ⟨x2, h2⟩ : ∃ x2, (x1 / 4 &&& 3689348814741910323) + (x1 &&& 3689348814741910323) = x2 := ⟨_, rfl⟩
  obtain ⟨x3, h3⟩ : ∃ x3, (x2 / 16 + x2) &&& 1085102592571150095 = x3 := ⟨_, rfl⟩
  obtain ⟨x4, h4⟩ : ∃ x4, x3 + x3 / 256 = x4 := ⟨_, rfl⟩
  obtain ⟨x5, h5⟩ : ∃ x5, x4 + x4 / 65536 = x5 := ⟨_, rfl⟩
  obtain ⟨x6, h6⟩ : ∃ x6, x5 + x5 / 4294967296 = x6 := ⟨_, rfl⟩
  simp only [h1, h2, h3, h4, h5, h6] at H
  obtain ⟨hv, b3, b4, b5, b6⟩ := H
  have b1 : x1 ≤ 12297829382473034410 := by
    have a1 := and_le_r (m / 2) 6148914691236517205
    have a2 := and_le_r m 6148914691236517205
    omega
  have b2 : x2 ≤ 7378697629483820646 := by
    have a1 := and_le_r (x1 / 4) 3689348814741910323
    have a2 := and_le_r x1 3689348814741910323
    omega
  have e1 : IntKind.u64.wrap (bits BinOp.and IntKind.u64 ((m : Int) / 2) 6148914691236517205 + bits BinOp.and IntKind.u64 (m : Int) 6148914691236517205) = (x1 : Int) := by
    rw [show (m : Int) / 2 = ((m / 2 : Nat) : Int) by omega, show (6148914691236517205 : Int) = ((6148914691236517205 : Nat) : Int) from rfl, u64_and_nat _ _ (by omega) (by omega), u64_and_nat _ _ hm (by omega), ← Int.natCast_add, h1, wrap_nat (by omega)]
  have e2 : IntKind.u64.wrap (bits BinOp.and IntKind.u64 ((x1 : Int) / 4) 3689348814741910323 + bits BinOp.and IntKind.u64 (x1 : Int) 3689348814741910323) = (x2 : Int) := by
    rw [show (x1 : Int) / 4 = ((x1 / 4 : Nat) : Int) by omega, show (3689348814741910323 : Int) = ((3689348814741910323 : Nat) : Int) from rfl, u64_and_nat _ _ (by omega) (by omega), u64_and_nat _ _ (by omega) (by omega), ← Int.natCast_add, h2, wrap_nat (by omega)]
  have e3 : bits BinOp.and IntKind.u64 (IntKind.u64.wrap ((x2 : Int) / 16 + (x2 : Int))) 1085102592571150095 = (x3 : Int) := by
    rw [show (x2 : Int) / 16 + (x2 : Int) = ((x2 / 16 + x2 : Nat) : Int) by omega, wrap_nat (by omega), show (1085102592571150095 : Int) = ((1085102592571150095 : Nat) : Int) from rfl, u64_and_nat _ _ (by omega) (by omega), h3]
  have e4 : IntKind.u64.wrap ((x3 : Int) + (x3 : Int) / 256) = (x4 : Int) := by
    rw [show (x3 : Int) + (x3 : Int) / 256 = ((x3 + x3 / 256 : Nat) : Int) by omega, h4, wrap_nat (by omega)]
  have e5 : IntKind.u64.wrap ((x4 : Int) + (x4 : Int) / 65536) = (x5 : Int) := by
    rw [show (x4 : Int) + (x4 : Int) / 65536 = ((x4 + x4 / 65536 : Nat) : Int) by omega, h5, wrap_nat (by omega)]
  have e6 : IntKind.u64.wrap ((x5 : Int) + (x5 : Int) / 4294967296) = (x6 : Int) := by
    rw [show (x5 : Int) + (x5 : Int) / 4294967296 = ((x5 + x5 / 4294967296 : Nat) : Int) by omega, h6, wrap_nat (by omega)]
  have e7 : bits BinOp.and IntKind.i64 (wrap64 (x6 : Int)) 127 = ((bln m 64).length : Int) := low7 hv
  obtain ⟨R, hR⟩ : ∃ R, (bln m 64).length = R := ⟨_, rfl⟩
  rw [hR] at e7 ⊢
  clear hv h1 h2 h3 h4 h5 h6 hR b1 b2 b3 b4 b5 b6
  go_enter Tryd.func91, Tryd.ntmps91
  go_wp2
  go_ret
  exact ⟨rfl, rfl⟩

set_option maxHeartbeats 1000000 in
theorem rot_any (m s : Nat) (k : Int) (hm : m < 2 ^ 64) (hk : bits BinOp.and IntKind.u64 (IntKind.u64.wrap k) 63 = (s : Int)) (h1 : 1 ≤ s) (h2 : s ≤ 63) (w : World) :
    Calls Tryd.prog 90 #[.int .u64 m, .int .i64 k] w fun e w' => e = .returned (.int .u64 (m * 2 ^ s % 2 ^ 64 ||| m / 2 ^ (64 - s) : Nat)) ∧ w' = w := by
  obtain ⟨t, ht⟩ : ∃ t, 64 - s = t := ⟨_, rfl⟩
  rw [ht]
  have hs64 : (s : Int) ≤ 64 := by omega
  have ht64 : (t : Int) ≤ 64 := by omega
  have ew : IntKind.u64.wrap (64 - (s : Int)) = (t : Int) := by rw [IntKind.wrap_u64]; omega
  have e1 : bits BinOp.or IntKind.u64 (IntKind.u64.wrap ((m : Int) * 2 ^ s)) ((m : Int) / 2 ^ t) = ((m * 2 ^ s % 2 ^ 64 ||| m / 2 ^ t : Nat) : Int) := by
    have a1 : IntKind.u64.wrap ((m : Int) * 2 ^ s) = ((m * 2 ^ s % 2 ^ 64 : Nat) : Int) := by
      rw [IntKind.wrap_u64, show (m : Int) * 2 ^ s = ((m * 2 ^ s : Nat) : Int) by rw [Int.natCast_mul, Int.natCast_pow]; rfl, p64]
      omega
    have a2 : (m : Int) / 2 ^ t = ((m / 2 ^ t : Nat) : Int) := by rw [Int.natCast_ediv, Int.natCast_pow]; rfl
    rw [a1, a2, u64_or_nat _ _ (Nat.mod_lt _ (by omega)) (Nat.lt_of_le_of_lt (Nat.div_le_self _ _) hm)]
  obtain ⟨R, hR⟩ : ∃ R, m * 2 ^ s % 2 ^ 64 ||| m / 2 ^ t = R := ⟨_, rfl⟩
  rw [hR] at e1 ⊢
  clear hR ht
  go_enter Tryd.func90, Tryd.ntmps90
  go_wp2
  go_ret
  refine ⟨?_, rfl⟩
  first | rfl | (rw [← e1]; rfl)

/-- The table of package bits. -/
def tabL : List Nat := [0, 1, 56, 2, 57, 49, 28, 3, 61, 58, 42, 50, 38, 29, 17, 4, 62, 47, 59, 36, 45, 43, 51, 22, 53, 39, 33, 30, 24, 18, 12, 5, 63, 55, 48, 27, 60, 41, 37, 16, 46, 35, 44, 21, 52, 32, 23, 11, 54, 26, 40, 15, 34, 20, 31, 10, 25, 14, 19, 9, 13, 8, 7, 6]

def TzT (w : World) : Prop := ∀ i, i < 64 → w.cell? ⟨1, i, none⟩ = some (.int .u8 (tabL.getD i 0))

theorem TzT.keeps {X : Nat → Prop} {w w' : World} (h : TzT w) (hk : Keeps X w w') (hX : ¬ X 1) : TzT w' := fun i hi => hk.cell (h i hi) hX
theorem TzT.lt {w : World} (h : TzT w) : 1 < w.heap.size := World.block_lt_of_cell? w _ (h 0 (by omega))
theorem TzT.mono {w w' : World} (h : TzT w) (hb : Below w.heap.size w w') : TzT w' := fun i hi => (hb.cell (p := ⟨1, i, none⟩) h.lt).trans (h i hi)

theorem tab_k : ∀ k, k < 64 → tabL.getD (2 ^ k * 285870213051353865 % 18446744073709551616 / 288230376151711744) 0 = k := by decide +kernel

theorem cast_ix (A : Nat) : ((A : Nat) : Int) * 285870213051353865 % 18446744073709551616 / 288230376151711744 = ((A * 285870213051353865 % 18446744073709551616 / 288230376151711744 : Nat) : Int) := by
  generalize h : A * 285870213051353865 = X
  have hx : (A : Int) * 285870213051353865 = (X : Int) := by rw [← h]; exact (Int.natCast_mul _ _).symm
  rw [hx]
  exact (congrArg (· / (288230376151711744 : Int)) (Int.natCast_emod X 18446744073709551616).symm).trans (Int.natCast_ediv _ _).symm

set_option maxRecDepth 100000 in
set_option maxHeartbeats 1000000 in
theorem tz_any (k : Nat) (hk : k < 64) (w : World) (hT : TzT w) :
    Calls Tryd.prog 84 #[.int .u64 (2 ^ k : Nat)] w fun e w' => e = .returned (.int .i64 k) ∧ w' = w := by
  have h : 2 ^ k * (2 * 0 + 1) < 2 ^ 64 := by rw [Nat.mul_zero, Nat.zero_add, Nat.mul_one]; exact Nat.pow_lt_pow_right (by omega) hk
  have ha := bit_alone k 0 h
  rw [Nat.mul_zero, Nat.zero_add, Nat.mul_one] at ha h
  have hp : 0 < 2 ^ k := Nat.two_pow_pos k
  have ht := tab_k k hk
  obtain ⟨i, hi⟩ : ∃ i, 2 ^ k * 285870213051353865 % 18446744073709551616 / 288230376151711744 = i := ⟨_, rfl⟩
  rw [hi] at ht
  have hi64 : i < 64 := by rw [← hi]; omega
  have c1 := hT i hi64
  rw [ht] at c1
  obtain ⟨m, hm⟩ : ∃ m, 2 ^ k = m := ⟨_, rfl⟩
  rw [hm] at h ha hp hi ⊢
  have e1 : IntKind.u64.wrap (bits BinOp.and IntKind.u64 (m : Int) (IntKind.u64.wrap (-(m : Int))) * 285870213051353865) / 288230376151711744 = (i : Int) := by
    have w1 : IntKind.u64.wrap (-(m : Int)) = ((2 ^ 64 - m : Nat) : Int) := by
      rw [IntKind.wrap_u64]; omega
    rw [w1, bits_and_u64_nat m (2 ^ 64 - m) (by omega) (by omega), ha, IntKind.wrap_u64, ← hi]
    exact cast_ix m
  have hi64' : (i : Int) < 64 := by omega
  clear ha hi hm ht hT h
  have hz : ((m : Int) == 0) = false := by simp; omega
  go_enter Tryd.func84, Tryd.ntmps84
  go_wp2
  go_ret
  exact ⟨rfl, rfl⟩

theorem count_any (m : Nat) (hm : m < 2 ^ 64) (w : World) : Calls Tryd.prog 85 #[.int .u64 m] w fun e w' => e = .returned (.int .i64 ((bln m 64).length : Nat)) ∧ w' = w := by
  have HC := hide (ones_any m hm w)
  generalize (bln m 64).length = R at *
  clear hm
  go_enter Tryd.func85, Tryd.ntmps85
  go_wp2_with fail
  refine HC.out.mono ?_
  rintro e w1 ⟨rfl, hw1⟩
  subst w1
  go_wp2
  go_ret
  exact ⟨rfl, rfl⟩

end Go.Proofs.YtnbaangnpoblfaaDoor
