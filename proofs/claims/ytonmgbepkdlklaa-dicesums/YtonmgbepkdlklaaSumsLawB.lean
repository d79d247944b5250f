/-
  The law DiceSums, walked. No conditions beyond those that each theorem bears.
-/
import Derived.Test.YtonmgbepkdlklaaSumsC
import Derived.Test.YtonmgbepkdlklaaSumW
import Derived.Test.YtonmgbepkdlklaaDuel
namespace Go.Proofs.Ytonmgbepkdlklaa
open Go.RowKit

set_option maxRecDepth 100000 in
set_option maxHeartbeats 16000000 in
theorem law3_ny (a0 : Option Addr) (n0 c0 : Nat) (z0 : List Int) (a1 : Option Addr) (n1 c1 : Nat) (A : List Int) (a2 : Option Addr) (n2 c2 : Nat) (B : List Int) (w : World) (h0 : Rd w a0 n0 c0 z0) (h1 : Rd w a1 n1 c1 A) (h2 : Rd w a2 n2 c2 B) (r0 : n0 * 8 ≤ 140737488351232) (r1 : n1 * 8 ≤ 140737488351232) (r2 : n2 * 8 ≤ 140737488351232)
    (hm : mayE z0 ≠ 0)
    (hw1 : wsB (n1 : Int) = false) (hw2 : wsB (n2 : Int) = false) :
    Calls Try.prog 3 #[.slice a0 n0 c0, .slice a1 n1 c1, .slice a2 n2 c2] w fun e w' => e = .returned (.bool true) ∧ Below w.heap.size w w' := by
  have m0 := h0.max
  have p0 := h0.cap
  have m1 := h1.max
  have p1 := h1.cap
  have m2 := h2.max
  have p2 := h2.cap
  unfold maxLen at m0 m1 m2
  obtain ⟨E, hE⟩ : ∃ E, mayE z0 = E := ⟨_, rfl⟩
  rw [hE] at hm
  have hE1 : (E != 0) = true := by simpa using hm
  have hE2 : (E == 0) = false := by simpa using hm
  have HE := hide hE
  have H0 := hide h0
  have H1 := hide h1
  have H2 := hide h2
  obtain ⟨q1, q2⟩ := (ws_iff n1).1 hw1
  obtain ⟨q3, q4⟩ := (ws_iff n2).1 hw2
  have HW1 := hide hw1
  have HW2 := hide hw2
  have HLA := hide h1.len
  have HLB := hide h2.len
  clear hw1 hw2
  clear hE h0 h1 h2 hm
  go_enter Try.func3, Try.ntmps3
  go_wp2_with fail
  refine (ints_any a0 n0 c0 z0 w H0.out r0).mono ?_
  rintro e w1 ⟨x1, k1, rfl, hR1, hB1⟩
  have HR1 := hide hR1
  have HB1 := hide hB1
  clear hR1 hB1
  go_wp2_with fail
  refine (Sums_no x1 n0 k1 z0 w1 HR1.out (by rw [HE.out]; intro h; rw [h] at hE1; cases hE1)).mono ?_
  rintro e w2 ⟨rfl, hB2⟩
  rw [HE.out]
  have HB2 := hide (HB1.out.trans (hB2.mono HB1.out.size))
  clear hB2 HB1
  go_wp2_with fail
  refine (ints_any a1 n1 c1 A w2 (H1.out.mono HB2.out) r1).mono ?_
  rintro e w3 ⟨x3, k3, rfl, hR3, hB3⟩
  have HR3 := hide hR3
  have HB3 := hide (HB2.out.trans (hB3.mono HB2.out.size))
  clear hR3 hB3
  go_wp2_with fail
  refine (ints_any a2 n2 c2 B w3 (H2.out.mono HB3.out) r2).mono ?_
  rintro e w4 ⟨x4, k4, rfl, hR4, hB4⟩
  have HR4 := hide hR4
  have HR3' := hide (HR3.out.mono hB4)
  have HB4 := hide (HB3.out.trans (hB4.mono HB3.out.size))
  clear hR4 hB4
  go_wp2_with fail
  refine (Duel_yes x3 n1 k3 x4 n2 k4 A B w4 HR3'.out HR4.out HW1.out HW2.out).mono ?_
  rintro e w5 ⟨rfl, hB5⟩
  obtain ⟨y0, hy0⟩ : ∃ y, dN A B 0 = y := ⟨_, rfl⟩
  obtain ⟨y1, hy1⟩ : ∃ y, dN A B 1 = y := ⟨_, rfl⟩
  obtain ⟨y2, hy2⟩ : ∃ y, dN A B 2 = y := ⟨_, rfl⟩
  rw [hy0, hy1, hy2]
  have HY0 := hide hy0
  have HY1 := hide hy1
  have HY2 := hide hy2
  clear hy0 hy1 hy2
  have HB5 := hide (HB4.out.trans (hB5.mono HB4.out.size))
  clear hB5
  go_wp2_with fail
  refine (DiceMay_any a0 n0 c0 z0 w5 (H0.out.mono HB5.out)).mono ?_
  rintro e w6 ⟨rfl, hw6⟩
  subst w6
  rw [HE.out]
  have d1 : ¬ (n1 : Int) < 1 := by omega
  have d2 : ¬ (20 : Int) < (n1 : Int) := by omega
  have d3 : ¬ (n2 : Int) < 1 := by omega
  have d4 : ¬ (20 : Int) < (n2 : Int) := by omega
  have d1' : decide ((n1 : Int) < 1) = false := by simpa using d1
  have d2' : decide ((20 : Int) < (n1 : Int)) = false := by simpa using d2
  have d3' : decide ((n2 : Int) < 1) = false := by simpa using d3
  have d4' : decide ((20 : Int) < (n2 : Int)) = false := by simpa using d4
  go_wp2_with fail
  clear d1 d2 d3 d4 d1' d2' d3' d4'
  go_loopw [14, 15, 16, 17] (fun u v s i wr => ∃ (k X Y Z q : Nat), k ≤ n1 ∧ i = .int .i64 k ∧ u = .int .i64 X ∧ v = .int .i64 Y ∧ s = .int .i64 Z ∧ wr = w5.drewN q ∧ Hid (X = allC A B 1 k) ∧ Hid (Y = allC A B 0 k) ∧ Hid (Z = allC A B (-1) k)) (fun _ _ _ i _ => n1 - (intOf i).toNat)
  case atStart => exact ⟨0, 0, 0, 0, 0, by omega, rfl, rfl, rfl, rfl, rfl, hide rfl, hide rfl, hide rfl⟩
  case round =>
    obtain ⟨k, X, Y, Z, q, hk, rfl, rfl, rfl, rfl, rfl, HX, HY, HZ⟩ := hrel
    by_cases hlt : k < n1
    · have hlt' : (k : Int) < (n1 : Int) := by omega
      have hXb : X ≤ 400 := by rw [HX.out]; refine Nat.le_trans (allC_le _ _ _ _) ?_; rw [HLB.out]; exact Nat.le_trans (Nat.mul_le_mul (show k ≤ 20 by omega) q4) (by omega)
      have hYb : Y ≤ 400 := by rw [HY.out]; refine Nat.le_trans (allC_le _ _ _ _) ?_; rw [HLB.out]; exact Nat.le_trans (Nat.mul_le_mul (show k ≤ 20 by omega) q4) (by omega)
      have hZb : Z ≤ 400 := by rw [HZ.out]; refine Nat.le_trans (allC_le _ _ _ _) ?_; rw [HLB.out]; exact Nat.le_trans (Nat.mul_le_mul (show k ≤ 20 by omega) q4) (by omega)
      go_wp2_with fail
      go_loopw [14, 15, 16, 18] (fun u v s i wr => ∃ (j X' Y' Z' q' : Nat), j ≤ n2 ∧ i = .int .i64 j ∧ u = .int .i64 X' ∧ v = .int .i64 Y' ∧ s = .int .i64 Z' ∧ wr = w5.drewN q' ∧ Hid (X' = X + rowC A B 1 k j) ∧ Hid (Y' = Y + rowC A B 0 k j) ∧ Hid (Z' = Z + rowC A B (-1) k j)) (fun _ _ _ i _ => n2 - (intOf i).toNat)
      case atStart => exact ⟨0, X, Y, Z, _, by omega, rfl, rfl, rfl, rfl, rfl, hide rfl, hide rfl, hide rfl⟩
      case round =>
        obtain ⟨j, X', Y', Z', q', hj, rfl, rfl, rfl, rfl, rfl, HX', HY', HZ'⟩ := hrel
        by_cases hjt : j < n2
        · have hjt' : (j : Int) < (n2 : Int) := by omega
          have hXb' : X' ≤ 420 := by rw [HX'.out]; have := rowC_le A B 1 k j; omega
          have hYb' : Y' ≤ 420 := by rw [HY'.out]; have := rowC_le A B 0 k j; omega
          have hZb' : Z' ≤ 420 := by rw [HZ'.out]; have := rowC_le A B (-1) k j; omega
          have hA8 := (H1.out.mono HB5.out).mono (drewN_below _ w5 q')
          have hB8 := (H2.out.mono HB5.out).mono (drewN_below _ w5 q')
          obtain ⟨b1, o1, e1, g1⟩ := hA8.cells (by omega)
          obtain ⟨b2, o2, e2, g2⟩ := hB8.cells (by omega)
          subst e1 e2
          have s1 := g1 k hlt
          have s2 := g2 j hjt
          have hcmp := cmp_range (A.getD k 0) (B.getD j 0)
          obtain ⟨u, hu⟩ : ∃ u, A.getD k 0 = u := ⟨_, rfl⟩
          obtain ⟨v, hv⟩ : ∃ v, B.getD j 0 = v := ⟨_, rfl⟩
          rw [hu] at s1
          rw [hv] at s2
          have s1' : w5.cell? ⟨b1, o1 + k, none⟩ = some (.int .i64 u) := s1
          have s2' : w5.cell? ⟨b2, o2 + j, none⟩ = some (.int .i64 v) := s2
          rw [hu, hv] at hcmp
          have HU := hide hu
          have HV := hide hv
          clear hA8 hB8 g1 g2 hu hv s1 s2
          rcases hcmp with ⟨hc, hl⟩ | ⟨hc, hl⟩ | ⟨hc, hl⟩
          · have t1 : ¬ v < u := by omega
            have t2 : (u == v) = false := by simp; omega
            have hcc : Lib.compareInt (A.getD k 0) (B.getD j 0) = (-1) := by rw [HU.out, HV.out]; exact hc
            have S1 := hide (rowC_same A B 1 (-1) k j hcc (by decide))
            have S2 := hide (rowC_same A B 0 (-1) k j hcc (by decide))
            have S3 := hide (rowC_more A B (-1) k j hcc)
            clear hc hl hcc
            go_wp2_with fail
            go_quiet (fail)
            go_wp2_with fail
            go_quiet (fail)
            go_wp2_with fail
            go_roundw
            case rel => exact ⟨j + 1, X', Y', Z' + 1, _, by omega, by go_num, rfl, rfl, by go_num, rfl, hide (by rw [S1.out, HX'.out]), hide (by rw [S2.out, HY'.out]), hide (by rw [S3.out, HZ'.out]; rfl)⟩
            case measure => simp [intOf]; omega
          · have t1 : ¬ v < u := by omega
            have t2 : (u == v) = true := by simpa using hl
            have hcc : Lib.compareInt (A.getD k 0) (B.getD j 0) = 0 := by rw [HU.out, HV.out]; exact hc
            have S1 := hide (rowC_same A B 1 0 k j hcc (by decide))
            have S2 := hide (rowC_more A B 0 k j hcc)
            have S3 := hide (rowC_same A B (-1) 0 k j hcc (by decide))
            clear hc hl hcc
            go_wp2_with fail
            go_quiet (fail)
            go_wp2_with fail
            go_quiet (fail)
            go_wp2_with fail
            go_roundw
            case rel => exact ⟨j + 1, X', Y' + 1, Z', _, by omega, by go_num, rfl, by go_num, rfl, rfl, hide (by rw [S1.out, HX'.out]), hide (by rw [S2.out, HY'.out]; rfl), hide (by rw [S3.out, HZ'.out])⟩
            case measure => simp [intOf]; omega
          · have t1 : v < u := by omega
            have hcc : Lib.compareInt (A.getD k 0) (B.getD j 0) = 1 := by rw [HU.out, HV.out]; exact hc
            have S1 := hide (rowC_more A B 1 k j hcc)
            have S2 := hide (rowC_same A B 0 1 k j hcc (by decide))
            have S3 := hide (rowC_same A B (-1) 1 k j hcc (by decide))
            clear hc hl hcc
            go_wp2_with fail
            go_quiet (fail)
            go_wp2_with fail
            go_roundw
            case rel => exact ⟨j + 1, X' + 1, Y', Z', _, by omega, by go_num, by go_num, rfl, rfl, rfl, hide (by rw [S1.out, HX'.out]; rfl), hide (by rw [S2.out, HY'.out]), hide (by rw [S3.out, HZ'.out])⟩
            case measure => simp [intOf]; omega
        · have hjt' : ¬ (j : Int) < (n2 : Int) := by omega
          obtain rfl : j = n2 := by omega
          go_wp2_with fail
          go_roundw
          case rel => exact ⟨k + 1, X', Y', Z', _, by omega, by go_num, rfl, rfl, rfl, rfl, hide (by rw [HX'.out, HX.out, ← HLB.out]; rfl), hide (by rw [HY'.out, HY.out, ← HLB.out]; rfl), hide (by rw [HZ'.out, HZ.out, ← HLB.out]; rfl)⟩
          case measure => simp [intOf]; omega
    · have hlt' : ¬ (k : Int) < (n1 : Int) := by omega
      obtain rfl : k = n1 := by omega
      have e1 : ((y2 : Int) == (X : Int)) = true := by rw [← HY2.out, HX.out, dN_all, HLA.out]; simp
      have e2 : ((y1 : Int) == (Y : Int)) = true := by rw [← HY1.out, HY.out, dN_all, HLA.out]; simp
      have e3 : ((y0 : Int) == (Z : Int)) = true := by rw [← HY0.out, HZ.out, dN_all, HLA.out]; simp
      go_wp2_with fail
      go_ret
      exact ⟨rfl, HB5.out.trans (drewN_below _ _ _)⟩

end Go.Proofs.Ytonmgbepkdlklaa
