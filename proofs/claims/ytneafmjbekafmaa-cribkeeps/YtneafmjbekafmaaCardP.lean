/-
  What crib.rankOf, crib.points, crib.pairPoints and the reference's pipOf, pointsOf answer. No conditions beyond those that each theorem bears.
-/
import Derived.Test.YtneafmjbekafmaaBlk
import Derived.Test.YtneafmjbekafmaaCribDef
namespace Go.Proofs.Ytneafmjbekafmaa
open Go.RowKit Go.Shelf

theorem ret_intN {x y : Int} (h : x = y) : Ending.returned (.int .i64 x) = .returned (.int .i64 y) := by rw [h]

set_option maxHeartbeats 400000 in
theorem rankOf_any (c : Nat) (hc : c < 52) (w : World) :
    Calls Try.prog 51 #[.int .i64 c] w fun e w' => e = .returned (.int .i64 (rkC c)) ∧ w' = w := by
  go_enter Try.func51, Try.ntmps51
  go_wp2
  go_ret
  exact ⟨ret_intN (by unfold rkC; omega), rfl⟩

set_option maxHeartbeats 400000 in
theorem points_any (c : Nat) (hc : c < 52) (w : World) :
    Calls Try.prog 50 #[.int .i64 c] w fun e w' => e = .returned (.int .i64 (ptC c)) ∧ w' = w := by
  have hr := rkC_lt c
  have hp : Hid (ptC c = if rkC c + 1 ≤ 10 then rkC c + 1 else 10) := rfl
  go_enter Try.func50, Try.ntmps50
  go_wp2_with fail
  refine (rankOf_any c hc w).mono ?_
  rintro e w1 ⟨rfl, hw⟩
  subst w1
  obtain ⟨r, hr'⟩ : ∃ r, rkC c = r := ⟨_, rfl⟩
  rw [hr'] at hr hp ⊢
  clear hr'
  by_cases h : r + 1 ≤ 10
  · have hb : (r : Int) + 1 ≤ 10 := by omega
    go_wp2
    go_ret
    exact ⟨ret_intN (by rw [hp.out, if_pos h]; omega), rfl⟩
  · have hb : ¬ (r : Int) + 1 ≤ 10 := by omega
    go_wp2
    go_ret
    exact ⟨ret_intN (by rw [hp.out, if_neg h]; rfl), rfl⟩

set_option maxHeartbeats 400000 in
theorem pairPoints_any (n : Nat) (hn : n ≤ 13) (w : World) :
    Calls Try.prog 34 #[.int .i64 n] w fun e w' => e = .returned (.int .i64 (n * (n - 1) : Nat)) ∧ w' = w := by
  obtain rfl | rfl | rfl | rfl | rfl | rfl | rfl | rfl | rfl | rfl | rfl | rfl | rfl | rfl : n = 0 ∨ n = 1 ∨ n = 2 ∨ n = 3 ∨ n = 4 ∨ n = 5 ∨ n = 6 ∨ n = 7 ∨ n = 8 ∨ n = 9 ∨ n = 10 ∨ n = 11 ∨ n = 12 ∨ n = 13 := by omega
  all_goals
    go_enter Try.func34, Try.ntmps34
    go_wp2
    go_ret
    exact ⟨rfl, rfl⟩

set_option maxHeartbeats 400000 in
theorem pipOf_any (c : Nat) (hc : c < 52) (w : World) :
    Calls Try.prog 26 #[.int .i64 c] w fun e w' => e = .returned (.int .i64 (rkC c + 1 : Nat)) ∧ w' = w := by
  by_cases h : c / 4 = 12
  · have h' : (c : Int) / 4 = 12 := by omega
    have hr : Hid (rkC c = 0) := by show _ = _; unfold rkC; omega
    go_enter Try.func26, Try.ntmps26
    go_wp2
    go_ret
    exact ⟨ret_intN (by rw [hr.out]; rfl), rfl⟩
  · have h' : ((c : Int) / 4 == 12) = false := by simp; omega
    have hr : Hid (rkC c = c / 4 + 1) := by show _ = _; unfold rkC; omega
    go_enter Try.func26, Try.ntmps26
    go_wp2
    go_ret
    exact ⟨ret_intN (by rw [hr.out]; omega), rfl⟩

set_option maxHeartbeats 400000 in
theorem pointsOf_any (c : Nat) (hc : c < 52) (w : World) :
    Calls Try.prog 25 #[.int .i64 c] w fun e w' => e = .returned (.int .i64 (ptC c)) ∧ w' = w := by
  have hr := rkC_lt c
  have hp : Hid (ptC c = if rkC c + 1 ≤ 10 then rkC c + 1 else 10) := rfl
  have P := hide (pipOf_any c hc w)
  obtain ⟨r, hr'⟩ : ∃ r, rkC c = r := ⟨_, rfl⟩
  rw [hr'] at hr hp P
  clear hr'
  by_cases h : r + 1 ≤ 10
  · have hb : ¬ (10 : Int) < ((r + 1 : Nat) : Int) := by omega
    go_enter Try.func25, Try.ntmps25
    go_wp2_with fail
    refine P.out.mono ?_
    rintro e w1 ⟨rfl, hw⟩
    subst w1
    go_wp2_with fail
    refine P.out.mono ?_
    rintro e w1 ⟨rfl, hw⟩
    subst w1
    go_wp2
    go_ret
    exact ⟨ret_intN (by rw [hp.out, if_pos h]; omega), rfl⟩
  · have hb : (10 : Int) < ((r + 1 : Nat) : Int) := by omega
    go_enter Try.func25, Try.ntmps25
    go_wp2_with fail
    refine P.out.mono ?_
    rintro e w1 ⟨rfl, hw⟩
    subst w1
    go_wp2
    go_ret
    exact ⟨ret_intN (by rw [hp.out, if_neg h]; rfl), rfl⟩

end Go.Proofs.Ytneafmjbekafmaa
