/-
  The law DiceExplodes, walked. No conditions beyond those that each theorem bears.
-/
import Derived.Test.YtonmgbepkdlklaaExplW
namespace Go.Proofs.Ytonmgbepkdlklaa
open Go.RowKit

set_option maxRecDepth 100000 in
set_option maxHeartbeats 2000000 in
theorem law5_bad (S D : Int) (w : World) (h : S < 1 ∨ 20 < S ∨ D < 0 ∨ 4 < D) :
    Calls Try.prog 5 #[.int .i64 S, .int .i64 D] w fun e w' => e = .returned (.bool true) ∧ Below w.heap.size w w' := by
  by_cases s1 : S < 1
  · have HE : exE S D = 3 := by unfold exE; rw [if_pos (by omega)]
    have HN := Exploding_no S D w (by rw [HE]; decide)
    rw [HE] at HN
    have HN' := hide HN
    clear HN HE h
    go_enter Try.func5, Try.ntmps5
    go_wp2_with fail
    refine HN'.out.mono ?_
    rintro e w1 ⟨rfl, hB1⟩
    have HB1 := hide hB1
    clear hB1
    go_wp2_with fail
    go_ret
    exact ⟨rfl, HB1.out⟩
  · have s1' : decide (S < 1) = false := by simpa using s1
    by_cases s2 : 20 < S
    · have HE : exE S D = 3 := by unfold exE; rw [if_pos (by omega)]
      have HN := Exploding_no S D w (by rw [HE]; decide)
      rw [HE] at HN
      have HN' := hide HN
      clear HN HE h
      go_enter Try.func5, Try.ntmps5
      go_wp2_with fail
      refine HN'.out.mono ?_
      rintro e w1 ⟨rfl, hB1⟩
      have HB1 := hide hB1
      clear hB1
      go_wp2_with fail
      go_ret
      exact ⟨rfl, HB1.out⟩
    · have s2' : decide (20 < S) = false := by simpa using s2
      by_cases d1 : D < 0
      · have HE : exE S D = 11 := by unfold exE; rw [if_neg (by omega), if_pos (by omega)]
        have HN := Exploding_no S D w (by rw [HE]; decide)
        rw [HE] at HN
        have HN' := hide HN
        clear HN HE h
        go_enter Try.func5, Try.ntmps5
        go_wp2_with fail
        refine HN'.out.mono ?_
        rintro e w1 ⟨rfl, hB1⟩
        have HB1 := hide hB1
        clear hB1
        go_wp2_with fail
        go_ret
        exact ⟨rfl, HB1.out⟩
      · have d1' : decide (D < 0) = false := by simpa using d1
        have d2 : 4 < D := by omega
        have HE : exE S D = 11 := by unfold exE; rw [if_neg (by omega), if_pos (by omega)]
        have HN := Exploding_no S D w (by rw [HE]; decide)
        rw [HE] at HN
        have HN' := hide HN
        clear HN HE h
        go_enter Try.func5, Try.ntmps5
        go_wp2_with fail
        refine HN'.out.mono ?_
        rintro e w1 ⟨rfl, hB1⟩
        have HB1 := hide hB1
        clear hB1
        go_wp2_with fail
        go_ret
        exact ⟨rfl, HB1.out⟩

set_option maxRecDepth 100000 in
set_option maxHeartbeats 4000000 in
theorem law5_good (s d n : Nat) (w : World) (hdn : d + 1 = n) (hn : n ≤ 5) (hs1 : 1 ≤ s) (hs : s ≤ 20) :
    Calls Try.prog 5 #[.int .i64 s, .int .i64 d] w fun e w' => e = .returned (.bool true) ∧ Below w.heap.size w w' := by
  have d1 : ¬ (d : Int) < 0 := by omega
  have d2 : ¬ (4 : Int) < (d : Int) := by omega
  have d1' : decide ((d : Int) < 0) = false := by simp
  have d2' : decide ((4 : Int) < (d : Int)) = false := by simpa using d2
  have s1 : ¬ (s : Int) < 1 := by omega
  have s2 : ¬ (20 : Int) < (s : Int) := by omega
  have s1' : decide ((s : Int) < 1) = false := by simpa using s1
  have s2' : decide ((20 : Int) < (s : Int)) = false := by simpa using s2
  by_cases hw : s ^ n ≤ 100000
  · obtain ⟨M, hM⟩ : ∃ M, s * n = M := ⟨_, rfl⟩
    have hMb : M ≤ 1000 := by rw [← hM]; exact Nat.le_trans (Nat.mul_le_mul hs hn) (by omega)
    have HM := hide hM
    have HDN := hide hdn
    have HW := hide hw
    clear hM hdn hw
    go_enter Try.func5, Try.ntmps5
    go_wp2_with fail
    refine (Exploding_yes s d n w HDN.out hn hs1 hs HW.out M HM.out).mono ?_
    rintro e w1 ⟨b1, rfl, hT1, hb1, hB1⟩
    have HT1 := hide hT1
    have HB1 := hide hB1
    clear hT1 hB1 hb1
    go_wp2_with fail
    clear d1 d2 d1' d2' s1 s2 s1' s2'
    go_loop [8, 9] (fun t v => ∃ (k A : Nat), k ≤ n ∧ v = .int .i64 k ∧ t = .int .i64 A ∧ Hid (A = s ^ k)) (fun _ v => n - (intOf v).toNat)
    case atStart => exact ⟨0, 1, by omega, rfl, rfl, hide rfl⟩
    case round =>
      obtain ⟨k, A, hk, rfl, rfl, HA⟩ := hrel
      by_cases hlt : k < n
      · have hlt' : (k : Int) ≤ (d : Int) := by have := HDN.out; omega
        obtain ⟨B, hB⟩ : ∃ B, A * s = B := ⟨_, rfl⟩
        have HB : Hid (B = s ^ (k + 1)) := hide (by rw [← hB, HA.out, Nat.pow_succ])
        have hBb : B ≤ 10240000000000 := by rw [HB.out]; exact pow_le_20 s (k + 1) hs (by omega)
        have hBe : (A : Int) * (s : Int) = (B : Int) := by rw [← hB]; simp
        clear hB
        go_wp2_with fail
        go_round
        case rel => exact ⟨k + 1, B, by omega, by go_num, rfl, HB⟩
        case measure => simp [intOf]; omega
      · have hlt' : ¬ (k : Int) ≤ (d : Int) := by have := HDN.out; omega
        obtain rfl : k = n := by omega
        have hA1 : ¬ (100000 : Int) < (A : Int) := by have := HA.out; have := HW.out; omega
        go_wp2_with fail
        refine (ExplodeWays_any s d k w1 HDN.out hn hs1 hs HW.out M HM.out).mono ?_
        rintro e w3 ⟨b3, rfl, hT3, hB3⟩
        have HT3 := hide hT3
        have HT2 := hide (HT1.out.below hB3 HT1.out.lt)
        have HB3 := hide (HB1.out.trans (hB3.mono HB1.out.size))
        clear hT3 hB3
        go_wp2_with fail
        have R2 := HT2.out.rd (by rw [tl_length]; unfold maxLen; omega)
        have R3 := HT3.out.rd (by rw [tl_length]; unfold maxLen; omega)
        rw [tl_length] at R2 R3
        refine (sameInts_any _ _ _ _ _ _ _ _ w3 R2 R3).mono ?_
        rintro e w4 ⟨rfl, q, hw4⟩
        subst w4
        rw [show decide (toI (tl (exF s) 1 M (List.replicate k s)) = toI (tl (exF s) 1 M (List.replicate k s))) = true from by simp]
        clear R2 R3
        go_wp2_with fail
        go_ret
        exact ⟨rfl, HB3.out.trans (drewN_below _ _ _)⟩
  · have HE : exE (s : Int) (d : Int) = 11 := by unfold exE; rw [if_neg (by omega), if_pos]; refine Or.inr (Or.inr ?_); simp only [Int.toNat_natCast]; rw [hdn]; omega
    have HN := Exploding_no s d w (by rw [HE]; decide)
    rw [HE] at HN
    have HN' := hide HN
    have HDN := hide hdn
    have HW := hide hw
    clear HN HE hw hdn
    go_enter Try.func5, Try.ntmps5
    go_wp2_with fail
    refine HN'.out.mono ?_
    rintro e w1 ⟨rfl, hB1⟩
    have HB1 := hide hB1
    clear hB1
    go_wp2_with fail
    clear d1 d2 d1' d2' s1 s2 s1' s2'
    go_loop [8, 9] (fun t v => ∃ (k A : Nat), k ≤ n ∧ v = .int .i64 k ∧ t = .int .i64 A ∧ Hid (A = s ^ k)) (fun _ v => n - (intOf v).toNat)
    case atStart => exact ⟨0, 1, by omega, rfl, rfl, hide rfl⟩
    case round =>
      obtain ⟨k, A, hk, rfl, rfl, HA⟩ := hrel
      by_cases hlt : k < n
      · have hlt' : (k : Int) ≤ (d : Int) := by have := HDN.out; omega
        obtain ⟨B, hB⟩ : ∃ B, A * s = B := ⟨_, rfl⟩
        have HB : Hid (B = s ^ (k + 1)) := hide (by rw [← hB, HA.out, Nat.pow_succ])
        have hBb : B ≤ 10240000000000 := by rw [HB.out]; exact pow_le_20 s (k + 1) hs (by omega)
        have hBe : (A : Int) * (s : Int) = (B : Int) := by rw [← hB]; simp
        clear hB
        go_wp2_with fail
        go_round
        case rel => exact ⟨k + 1, B, by omega, by go_num, rfl, HB⟩
        case measure => simp [intOf]; omega
      · have hlt' : ¬ (k : Int) ≤ (d : Int) := by have := HDN.out; omega
        obtain rfl : k = n := by omega
        have hA1 : (100000 : Int) < (A : Int) := by have := HA.out; have := HW.out; omega
        go_wp2_with fail
        go_ret
        exact ⟨rfl, HB1.out⟩

theorem law5_any (S D : Int) (w : World) :
    Calls Try.prog 5 #[.int .i64 S, .int .i64 D] w fun e w' => e = .returned (.bool true) ∧ Below w.heap.size w w' := by
  by_cases h : S < 1 ∨ 20 < S ∨ D < 0 ∨ 4 < D
  · exact law5_bad S D w h
  · obtain ⟨s, rfl⟩ : ∃ s : Nat, S = s := ⟨S.toNat, by omega⟩
    obtain ⟨d, rfl⟩ : ∃ d : Nat, D = d := ⟨D.toNat, by omega⟩
    exact law5_good s d (d + 1) w rfl (by omega) (by omega) (by omega)

end Go.Proofs.Ytonmgbepkdlklaa
