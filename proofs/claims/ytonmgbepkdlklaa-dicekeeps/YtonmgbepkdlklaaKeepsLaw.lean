/-
  The law DiceKeeps, walked. No conditions beyond those that each theorem bears.
-/
import Derived.Test.YtonmgbepkdlklaaKeepW
namespace Go.Proofs.Ytonmgbepkdlklaa
open Go.RowKit

theorem keE_zero (N S K : Int) (h : keE N S K = 0) : ∃ n s k : Nat, N = n ∧ S = s ∧ K = k ∧ 1 ≤ n ∧ n ≤ 10 ∧ 1 ≤ s ∧ s ≤ 20 ∧ 1 ≤ k ∧ k ≤ n ∧ s ^ n ≤ 100000 := by
  unfold keE at h
  by_cases h1 : N < 1 ∨ 10 < N
  · rw [if_pos h1] at h; cases h
  · rw [if_neg h1] at h
    by_cases h2 : S < 1 ∨ 20 < S
    · rw [if_pos h2] at h; cases h
    · rw [if_neg h2] at h
      by_cases h3 : K < 1 ∨ N < K ∨ 100000 < S.toNat ^ N.toNat
      · rw [if_pos h3] at h; cases h
      · exact ⟨N.toNat, S.toNat, K.toNat, by omega, by omega, by omega, by omega, by omega, by omega, by omega, by omega, by omega, by omega⟩

set_option maxRecDepth 100000 in
set_option maxHeartbeats 2000000 in
theorem law4_any (N S K : Int) (w : World) :
    Calls Try.prog 4 #[.int .i64 N, .int .i64 S, .int .i64 K] w fun e w' => e = .returned (.bool true) ∧ Below w.heap.size w w' := by
  by_cases h : keE N S K = 0
  · obtain ⟨n, s, k, rfl, rfl, rfl, hn1, hn, hs1, hs, hk1, hkn, hw⟩ := keE_zero N S K h
    obtain ⟨M, hM⟩ : ∃ M, k * s - k + 1 = M := ⟨_, rfl⟩
    have hMb : M ≤ 1000 := by rw [← hM]; have : k * s ≤ 10 * 20 := Nat.mul_le_mul (by omega) hs; omega
    have HM := hide hM
    have H := hide h
    clear hM h
    go_enter Try.func4, Try.ntmps4
    go_wp2_with fail
    refine (Keep_yes n s k w hn1 hn hs1 hs hk1 hkn hw M HM.out).mono ?_
    rintro e w1 ⟨b1, rfl, hT1, hb1, hB1⟩
    have HT1 := hide hT1
    have HB1 := hide hB1
    clear hT1 hB1 hb1
    go_wp2_with fail
    refine (KeepMay_any _ _ _ _).mono ?_
    rintro e w2 ⟨rfl, hw2⟩
    subst w2
    rw [H.out]
    go_wp2_with fail
    refine (KeepWays_any n s k w1 hn1 hn hs1 hs hk1 hkn hw M HM.out).mono ?_
    rintro e w3 ⟨b3, rfl, hT3, hB3⟩
    have HT3 := hide hT3
    have HT2 := hide (HT1.out.below hB3 HT1.out.lt)
    have HB3 := hide (HB1.out.trans (hB3.mono HB1.out.size))
    clear hT3 hB3
    go_wp2_with fail
    have R2 := HT2.out.rd (by rw [tl_length]; unfold maxLen; omega)
    have R3 := HT3.out.rd (by rw [tl_length]; unfold maxLen; omega)
    rw [tl_length] at R2 R3
    refine (sameInts_any _ _ _ _ _ _ _ _ w3 R2 R3).mono ?_
    rintro e w4 ⟨rfl, q, hw4⟩
    subst w4
    rw [show decide (toI (tl (keF n k) k M (List.replicate n s)) = toI (tl (keF n k) k M (List.replicate n s))) = true from by simp]
    clear R2 R3
    go_wp2_with fail
    go_ret
    exact ⟨rfl, HB3.out.trans (drewN_below _ _ _)⟩
  · obtain ⟨E, hE⟩ : ∃ E, keE N S K = E := ⟨_, rfl⟩
    have HE := hide hE
    have HN := hide (Keep_no N S K w h)
    rw [hE] at HN h
    have hE1 : (E != 0) = true := by simpa using h
    have hE2 : (E == E) = true := by simp
    clear h hE
    go_enter Try.func4, Try.ntmps4
    go_wp2_with fail
    refine HN.out.mono ?_
    rintro e w1 ⟨rfl, hB1⟩
    have HB1 := hide hB1
    clear hB1
    go_wp2_with fail
    refine (KeepMay_any _ _ _ _).mono ?_
    rintro e w2 ⟨rfl, hw2⟩
    subst w2
    rw [HE.out]
    go_wp2_with fail
    go_ret
    exact ⟨rfl, HB1.out⟩

end Go.Proofs.Ytonmgbepkdlklaa
