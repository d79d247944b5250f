/-
  'gameroomlaw.FourCounts' returns true. No conditions beyond those that the theorem bears.
-/
import Derived.Test.YtkdbobicpnbmoaaDoorCtM
namespace Go.Proofs.YtkdbobicpnbmoaaDoor
open Go.RowKit

attribute [local irreducible] cdp zer rcd
attribute [local go_sem] build24f

set_option maxRecDepth 100000 in
set_option maxHeartbeats 4000000 in
theorem counts_any (x y k p : Int) (w : World) (hT : Tab w) : Calls Tryd.prog 5 #[.int .i64 x, .int .i64 y, .int .i64 k, .int .i64 p] w fun e w' => e = .returned (.bool true) ∧ Below w.heap.size w w' := by
  by_cases hok : cOk x y k p
  · obtain ⟨hx, hy, hk, hp0, hp6⟩ := hok
    obtain ⟨W, rfl⟩ := Int.eq_ofNat_of_zero_le (show 0 ≤ x by omega)
    obtain ⟨H, rfl⟩ := Int.eq_ofNat_of_zero_le (show 0 ≤ y by omega)
    obtain ⟨K, rfl⟩ := Int.eq_ofNat_of_zero_le (show 0 ≤ k by omega)
    obtain ⟨l, rfl⟩ := Int.eq_ofNat_of_zero_le hp0
    have hW : 1 ≤ W ∧ W ≤ 10 := by omega
    have hH : 1 ≤ H ∧ H ≤ 10 := by omega
    have hK : 1 ≤ K ∧ K ≤ 10 := by omega
    have hl : l ≤ 6 := by omega
    have HC := hide (Count_yes W H K l hW hH hK hl w hT)
    have HS := hide (count_same W H K l hW.1 hK.1)
    obtain ⟨n, hn⟩ : ∃ n, W * H = n := ⟨_, rfl⟩
    have HD := hide (cd_all W H K n hW hH hn hK l hl)
    rw [hn] at HC HS
    have hn100 : n ≤ 100 := by
      have : W * H ≤ 10 * 10 := Nat.mul_le_mul hW.2 hH.2
      omega
    have hmul : (W : Int) * (H : Int) = (n : Int) := by rw [← hn]; simp
    obtain ⟨i0, hi, hz0, hz1, hz2⟩ := info_parts Tryd.info3
    have HMK : Hid (∀ W1 : World, ∃ w', (Instr.makeSlice 22 (.int .i64 (n : Int)) (.int .i64 (n : Int))).run Tryd.prog W1 = .ok (.slice (some ⟨W1.heap.size, 0, none⟩) n n) w' ∧ w'.ownsRow W1.heap.size 3 1 (.slice (some ⟨W1.heap.size, 0, none⟩) n n) n ((zer n).map (Value.int .i64)) ∧ W1.grownBy w' none) := hide (fun W1 => by
      obtain ⟨w', hrun, r1, r2⟩ := run_make_full (P := Tryd.prog) W1 W1.heap.size 22 3 i0 (.int .i64 0) 1 Tryd.underlying22 hi hz0 hz1 .i64 .i64 n (by rw [hz2]; omega) (by unfold maxLen; omega) (Nat.le_refl _)
      refine ⟨w', hrun, ?_, r2⟩
      rw [← made_zer]
      simpa [Value.cells] using r1)
    have HZ := hide (zer_ok n)
    clear hi hz0 hz1 hz2 hn hT
    have a1 : ¬ (W : Int) < 1 := by omega
    have a2 : ¬ (10 : Int) < (W : Int) := by omega
    have a3 : ¬ (H : Int) < 1 := by omega
    have a4 : ¬ (10 : Int) < (H : Int) := by omega
    have a5 : ¬ (K : Int) < 1 := by omega
    have a6 : ¬ (10 : Int) < (K : Int) := by omega
    have a7 : ¬ (l : Int) < 0 := by omega
    have a8 : ¬ (6 : Int) < (l : Int) := by omega
    obtain ⟨R, hR⟩ : ∃ R, cdp W H K l (zer n) 1 = R := ⟨_, rfl⟩
    rw [hR] at HC HS
    clear hR hW hH hK hl hx hy hk hp0 hp6
    go_enter Tryd.func5, Tryd.ntmps5
    go_wp2_with fail
    refine HC.out.mono ?_
    rintro e w2 ⟨rfl, hb2⟩
    obtain ⟨w3, hrun, hO, hg3⟩ := HMK.out w2
    have HB3 : Hid (Below w.heap.size w w3) := hide (hb2.trans (((Below.refl _ w2).grown hg3 (Nat.le_refl _) (fun j hj => by cases hj)).mono hb2.size))
    have HD3 := hide (HD.out _ _ _ w3 HZ.out (Rd.of_own hO))
    rw [HS.out] at HD3
    clear hO hg3 HMK hb2 HC HD
    go_wp2_with fail
    refine HD3.out.mono ?_
    rintro e w4 ⟨rfl, hb4⟩
    have HB4 := hide (HB3.out.trans (hb4.mono HB3.out.size))
    clear hb4 HD3
    go_wp2_with fail
    go_ret
    exact ⟨by rfl, HB4.out⟩
  · have HC := hide (Count_no x y k p w hok)
    have hcase : x < 1 ∨ (1 ≤ x ∧ 10 < x) ∨ (1 ≤ x ∧ x ≤ 10 ∧ y < 1) ∨ (1 ≤ x ∧ x ≤ 10 ∧ 1 ≤ y ∧ 10 < y) ∨ (1 ≤ x ∧ x ≤ 10 ∧ 1 ≤ y ∧ y ≤ 10 ∧ k < 1) ∨ (1 ≤ x ∧ x ≤ 10 ∧ 1 ≤ y ∧ y ≤ 10 ∧ 1 ≤ k ∧ 10 < k) ∨ (1 ≤ x ∧ x ≤ 10 ∧ 1 ≤ y ∧ y ≤ 10 ∧ 1 ≤ k ∧ k ≤ 10 ∧ p < 0) ∨ (1 ≤ x ∧ x ≤ 10 ∧ 1 ≤ y ∧ y ≤ 10 ∧ 1 ≤ k ∧ k ≤ 10 ∧ 0 ≤ p ∧ 6 < p) := by
      unfold cOk at hok
      omega
    clear hok hT
    rcases hcase with h1 | ⟨h1, h2⟩ | ⟨h1, h2, h3⟩ | ⟨h1, h2, h3, h4⟩ | ⟨h1, h2, h3, h4, h5⟩ | ⟨h1, h2, h3, h4, h5, h6⟩ | ⟨h1, h2, h3, h4, h5, h6, h7⟩ | ⟨h1, h2, h3, h4, h5, h6, h7, h8⟩
    all_goals
      go_enter Tryd.func5, Tryd.ntmps5
      go_wp2_with fail
      refine HC.out.mono ?_
      rintro e w2 ⟨rfl, hw2⟩
      subst w2
      go_wp2_with fail
      go_ret
      exact ⟨by rfl, Below.refl _ _⟩

end Go.Proofs.YtkdbobicpnbmoaaDoor
