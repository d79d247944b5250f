/-
  gameroomkeep's helpers: a number picked, an empty board. No conditions beyond those that each theorem bears.
-/
import Derived.Test.YtafiaimlmdflnaaIt
namespace Go.Proofs.Ytafiaimlmdflnaa
open Go.RowKit

def pk (n : Int) (m : Nat) : Nat := (if n < 0 then -(n + 1) else n).toNat % m

theorem pk_lt (n : Int) (m : Nat) (h : 0 < m) : pk n m < m := Nat.mod_lt _ h

set_option maxHeartbeats 400000 in
theorem picked_any (n : Int) (m : Nat) (w : World) (h1 : -9223372036854775808 ≤ n) (h2 : n ≤ 9223372036854775807) (hm : 1 ≤ m) (hm2 : m ≤ 479001600) :
    Calls Try.prog 26 #[.int .i64 n, .int .i64 m] w fun e w' => e = .returned (.int .i64 (pk n m : Nat)) ∧ w' = w := by
  have hm' : ¬ (m : Int) = 0 := by omega
  by_cases hn : n < 0
  · obtain ⟨q, hq⟩ := Int.eq_ofNat_of_zero_le (show 0 ≤ -(n + 1) by omega)
    have HP : Hid (pk n m = q % m) := hide (by unfold pk; rw [if_pos hn, hq]; rfl)
    have e0 : n = -(q : Int) - 1 := by omega
    have hq2 : (q : Int) ≤ 9223372036854775807 := by omega
    subst e0
    have hmod : (q : Int) % (m : Int) = ((q % m : Nat) : Int) := by simp
    have hneg : -(-(q : Int) - 1 + 1) = (q : Int) := by omega
    generalize q % m = R at *
    clear hq
    go_enter Try.func26, Try.ntmps26
    go_wp2
    go_ret
    refine ⟨ret_int ?_, rfl⟩
    rw [HP.out, ← hmod]
  · obtain ⟨q, rfl⟩ := Int.eq_ofNat_of_zero_le (show 0 ≤ n by omega)
    have HP : Hid (pk (q : Int) m = q % m) := hide (by unfold pk; rw [if_neg hn]; rfl)
    have hmod : (q : Int) % (m : Int) = ((q % m : Nat) : Int) := by simp
    generalize q % m = R at *
    go_enter Try.func26, Try.ntmps26
    go_wp2
    go_ret
    refine ⟨?_, rfl⟩
    rw [HP.out]
    rfl

end Go.Proofs.Ytafiaimlmdflnaa
