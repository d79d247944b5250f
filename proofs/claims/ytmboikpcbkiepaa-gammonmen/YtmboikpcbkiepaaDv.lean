/-
  What gammon.divisor answers: the greatest common divisor. No conditions beyond those that each theorem bears.
-/
import Derived.Test.YtmboikpcbkiepaaSd
import Derived.BigQuiet
namespace Go.Proofs.Ytmboikpcbkiepaa
open Go.RowKit

set_option maxHeartbeats 1000000 in
theorem divisor_any (a b : Nat) (ha : a ≤ 9223372036854775807) (hb : b ≤ 9223372036854775807) (w : World) :
    Calls Try.prog 48 #[.int .i64 a, .int .i64 b] w fun e w' => e = .returned (.int .i64 (Nat.gcd a b : Nat)) ∧ ∃ q, w' = w.drewN q := by
  go_enter Try.func48, Try.ntmps48
  go_wp2_with fail
  go_loopw [0, 1] (fun v0 v1 wr => ∃ (x y : Nat), v0 = .int .i64 x ∧ v1 = .int .i64 y ∧ x ≤ 9223372036854775807 ∧ y ≤ 9223372036854775807 ∧ Hid (Nat.gcd x y = Nat.gcd a b) ∧ Hid (∃ q, wr = w.drewN q)) (fun _ v _ => (intOf v).toNat)
  case atStart => exact ⟨a, b, rfl, rfl, ha, hb, rfl, ⟨0, rfl⟩⟩
  case round =>
    obtain ⟨x, y, rfl, rfl, hx, hy, hg, hq⟩ := hrel
    by_cases h0 : y = 0
    · subst h0
      have hge : Hid (Nat.gcd a b = x) := hide (by rw [← hg.out, Nat.gcd_zero_right])
      go_wp2
      go_ret
      exact ⟨by rw [hge.out]; rfl, hq.out⟩
    · have h1 : ((y : Int) == 0) = false := by simp; omega
      have h2 : ¬ (y : Int) = 0 := by omega
      obtain ⟨r, hr⟩ : ∃ r, x % y = r := ⟨_, rfl⟩
      have htm : Int.tmod (x : Int) (y : Int) = (r : Int) := by
        rw [Int.tmod_eq_emod_of_nonneg (by omega), ← hr]
        rfl
      have hlt : r < y := by rw [← hr]; exact Nat.mod_lt _ (by omega)
      have HG : Hid (Nat.gcd y r = Nat.gcd a b) := hide (by rw [← hg.out, ← hr, Nat.gcd_comm x y, Nat.gcd_rec y x, Nat.gcd_comm])
      clear hr
      go_wp2_with fail
      go_quiet (fail)
      go_wp2
      refine ⟨⟨y, r, rfl, rfl, hy, by omega, HG.out, ?_⟩, by simp [intOf]; omega⟩
      obtain ⟨q, rfl⟩ := hq.out
      exact ⟨_, World.drewN_drewN w q _⟩

end Go.Proofs.Ytmboikpcbkiepaa
