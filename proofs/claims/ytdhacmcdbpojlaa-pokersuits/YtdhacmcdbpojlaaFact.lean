/-
  What package deck's factorial answers.
-/
import Derived.Test.YtdhacmcdbpojlaaNum
namespace Go.Proofs.Ytdhacmcdbpojlaa
open Go.RowKit

theorem signN_succ (p : Nat) : signN (p + 1) = -signN p := by
  unfold signN
  by_cases h : p % 2 = 0
  · rw [if_neg (by omega), if_pos h]
  · rw [if_pos (by omega), if_neg h]; rfl

theorem signN_bd (p : Nat) : -1 ≤ signN p ∧ signN p ≤ 1 := by unfold signN; split <;> omega

set_option maxHeartbeats 400000 in
theorem fact_any (m : Nat) (w : World) (hm : m ≤ 12) :
    Calls Try.prog 36 #[.int .i64 m] w fun e w' => e = .returned (.int .i64 (fact m : Nat)) ∧ w' = w := by
  go_enter Try.func36, Try.ntmps36
  go_wp2
  go_loop [3, 6] (fun f i => ∃ t : Nat, t ≤ m ∧ i = .int .i64 t ∧ f = .int .i64 (fact t : Nat)) (fun _ i => m - (intOf i).toNat)
  case atStart => exact ⟨0, by omega, rfl, rfl⟩
  case round =>
    obtain ⟨t, ht, rfl, rfl⟩ := hrel
    have hf := fact_le t (by omega)
    have HN : Hid (fact (t + 1) = fact t * (t + 1)) := rfl
    by_cases hlt : t < m
    · obtain ⟨S, hS⟩ : ∃ S, S = fact t := ⟨_, rfl⟩
      rw [← hS] at hf HN ⊢
      clear hS
      have hlt' : (t : Int) < (m : Int) := by omega
      have hmul : (S : Int) * ((t : Int) + 1) = ((S * (t + 1) : Nat) : Int) := by
        rw [Int.natCast_mul]; rfl
      have hQ : S * (t + 1) ≤ 479001600 * 12 := Nat.mul_le_mul hf (by omega)
      generalize S * (t + 1) = Q at *
      go_wp2
      go_round
      case rel => exact ⟨t + 1, by omega, by go_num, by rw [HN.out]⟩
      case measure => simp [intOf]; omega
    · have hte : t = m := by omega
      subst t
      have hlt' : ¬ (m : Int) < (m : Int) := by omega
      go_wp2
      go_ret
      exact ⟨rfl, rfl⟩

end Go.Proofs.Ytdhacmcdbpojlaa
