/-
  Sets of cards as bits of a number: the lowest bit told by the table of package bits. No conditions beyond those that each theorem bears.
-/
import Derived.Test.YtiihnlpoagnkhaaDoorBase
import Derived.Test.YtiihnlpoagnkhaaDoorMask
import Derived.Laws.Bits64b
namespace Go.Proofs.YtiihnlpoagnkhaaDoor
open Go.RowKit

/-- The table of package bits. -/
def tabL : List Nat := [0, 1, 56, 2, 57, 49, 28, 3, 61, 58, 42, 50, 38, 29, 17, 4, 62, 47, 59, 36, 45, 43, 51, 22, 53, 39, 33, 30, 24, 18, 12, 5, 63, 55, 48, 27, 60, 41, 37, 16, 46, 35, 44, 21, 52, 32, 23, 11, 54, 26, 40, 15, 34, 20, 31, 10, 25, 14, 19, 9, 13, 8, 7, 6]

def Tab (w : World) : Prop := ∀ i, i < 64 → w.cell? ⟨0, i, none⟩ = some (.int .u8 (tabL.getD i 0))

theorem tab_k : ∀ k, k < 64 → tabL.getD (2 ^ k * 285870213051353865 % 18446744073709551616 / 288230376151711744) 0 = k := by decide +kernel

theorem cast_ix (A : Nat) : ((A : Nat) : Int) * 285870213051353865 % 18446744073709551616 / 288230376151711744 = ((A * 285870213051353865 % 18446744073709551616 / 288230376151711744 : Nat) : Int) := by
  generalize h : A * 285870213051353865 = X
  have hx : (A : Int) * 285870213051353865 = (X : Int) := by rw [← h]; exact (Int.natCast_mul _ _).symm
  rw [hx]
  exact (congrArg (· / (288230376151711744 : Int)) (Int.natCast_emod X 18446744073709551616).symm).trans (Int.natCast_ediv _ _).symm

set_option maxRecDepth 100000 in
set_option maxHeartbeats 1000000 in
theorem tz_any (k q : Nat) (h : 2 ^ k * (2 * q + 1) < 2 ^ 64) (w : World) (hT : Tab w) :
    Calls Tryd.prog 40 #[.int .u64 (2 ^ k * (2 * q + 1) : Nat)] w fun e w' => e = .returned (.int .i64 k) ∧ w' = w := by
  have hk := low_lt k q h
  have ha := bit_alone k q h
  have hp : 0 < 2 ^ k * (2 * q + 1) := Nat.mul_pos (Nat.two_pow_pos k) (by omega)
  have ht := tab_k k hk
  obtain ⟨m, hm⟩ : ∃ m, 2 ^ k * (2 * q + 1) = m := ⟨_, rfl⟩
  rw [hm] at h ha hp ⊢
  obtain ⟨i, hi⟩ : ∃ i, 2 ^ k * 285870213051353865 % 18446744073709551616 / 288230376151711744 = i := ⟨_, rfl⟩
  rw [hi] at ht
  have hi64 : i < 64 := by rw [← hi]; omega
  have c1 := hT i hi64
  rw [ht] at c1
  have e1 : IntKind.u64.wrap (bits BinOp.and IntKind.u64 (m : Int) (IntKind.u64.wrap (-(m : Int))) * 285870213051353865) / 288230376151711744 = (i : Int) := by
    have w1 : IntKind.u64.wrap (-(m : Int)) = ((2 ^ 64 - m : Nat) : Int) := by
      rw [IntKind.wrap_u64]; omega
    rw [w1, bits_and_u64_nat m (2 ^ 64 - m) (by omega) (by omega), ha, IntKind.wrap_u64, ← hi]
    exact cast_ix (2 ^ k)
  have hi64' : (i : Int) < 64 := by omega
  clear ha hi hm ht hT h
  have hz : ((m : Int) == 0) = false := by simp; omega
  go_enter Tryd.func40, Tryd.ntmps40
  go_wp2
  go_ret
  exact ⟨rfl, rfl⟩

end Go.Proofs.YtiihnlpoagnkhaaDoor
