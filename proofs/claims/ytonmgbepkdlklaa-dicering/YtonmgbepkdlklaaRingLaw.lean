/-
  The law DiceRing, walked. No conditions beyond those that each theorem bears.
-/
import Derived.Test.YtonmgbepkdlklaaSumsC
namespace Go.Proofs.Ytonmgbepkdlklaa
open Go.RowKit

theorem cmp_neg (x y : Int) : Lib.compareInt y x = -Lib.compareInt x y := by
  rcases cmp_range x y with ⟨h, h1⟩ | ⟨h, h1⟩ | ⟨h, h1⟩ <;> rcases cmp_range y x with ⟨k, k1⟩ | ⟨k, k1⟩ | ⟨k, k1⟩ <;> first | omega | (rw [h, k]; rfl)

theorem all_flip (A B : List Int) (v : Int) : allC B A v B.length = allC A B (-v) A.length := by
  unfold allC rowC
  rw [sumTo_swap]
  refine sumTo_congr _ fun i _ => sumTo_congr _ fun k _ => ?_
  rw [cmp_neg (A.getD i 0) (B.getD k 0)]
  by_cases h : Lib.compareInt (A.getD i 0) (B.getD k 0) = -v
  · rw [if_pos h, if_pos (by omega)]
  · rw [if_neg h, if_neg (by omega)]

theorem dN_flip (A B : List Int) (p q : Nat) (h : p + q = 2) : dN B A p = dN A B q := by
  rw [dN_all, dN_all, all_flip]
  congr 1
  omega

theorem dN_total (A B : List Int) : dN A B 2 + dN A B 1 + dN A B 0 = A.length * B.length := by
  rw [dN_all, dN_all, dN_all]
  unfold allC rowC
  rw [← sumTo_add, ← sumTo_add, ← sumTo_const B.length A.length]
  refine sumTo_congr _ fun i _ => ?_
  rw [← sumTo_add, ← sumTo_add]
  have h1 := sumTo_const 1 B.length
  rw [Nat.mul_one] at h1
  refine (sumTo_congr _ fun k _ => ?_).trans h1
  rcases cmp_range (A.getD i 0) (B.getD k 0) with ⟨h, -⟩ | ⟨h, -⟩ | ⟨h, -⟩ <;> rw [h] <;> decide

theorem ring1 : dN [2, 4, 9] [1, 6, 8] 2 = 5 ∧ dN [2, 4, 9] [1, 6, 8] 1 = 0 ∧ dN [2, 4, 9] [1, 6, 8] 0 = 4 := by decide
theorem ring2 : dN [1, 6, 8] [3, 5, 7] 2 = 5 ∧ dN [1, 6, 8] [3, 5, 7] 1 = 0 ∧ dN [1, 6, 8] [3, 5, 7] 0 = 4 := by decide
theorem ring3 : dN [3, 5, 7] [2, 4, 9] 2 = 5 ∧ dN [3, 5, 7] [2, 4, 9] 1 = 0 ∧ dN [3, 5, 7] [2, 4, 9] 0 = 4 := by decide

theorem rd3 (w : World) (b x y z : Nat) (h : Blk w b [x, y, z]) : Rd w (some ⟨b, 0, none⟩) 3 3 [(x : Int), (y : Int), (z : Int)] := h.rd (by simp [maxLen])

theorem ws3 : wsB ((3 : Nat) : Int) = false := by decide

set_option maxRecDepth 100000 in
set_option maxHeartbeats 8000000 in
theorem law7_any (a0 : Option Addr) (n0 c0 : Nat) (A : List Int) (a1 : Option Addr) (n1 c1 : Nat) (B : List Int) (w : World) (h0 : Rd w a0 n0 c0 A) (h1 : Rd w a1 n1 c1 B) :
    Calls Try.prog 7 #[.slice a0 n0 c0, .slice a1 n1 c1] w fun e w' => e = .returned (.bool true) ∧ Below w.heap.size w w' := by
  have m0 := h0.max
  have p0 := h0.cap
  have m1 := h1.max
  have p1 := h1.cap
  unfold maxLen at m0 m1
  have H0 := hide h0
  have H1 := hide h1
  have HLA := hide h0.len
  have HLB := hide h1.len
  clear h0 h1
  obtain ⟨P, hP⟩ : ∃ P, w.heap.size = P := ⟨_, rfl⟩
  have HX1 := Blk.new w [2, 4, 9] #[.int .i64 2, .int .i64 4, .int .i64 9] rfl
  have HX2 := Blk.new (w.alloc (.cells #[.int .i64 2, .int .i64 4, .int .i64 9] 3)) [1, 6, 8] #[.int .i64 1, .int .i64 6, .int .i64 8] rfl
  have HX3 := Blk.new ((w.alloc (.cells #[.int .i64 2, .int .i64 4, .int .i64 9] 3)).alloc (.cells #[.int .i64 1, .int .i64 6, .int .i64 8] 3)) [3, 5, 7] #[.int .i64 3, .int .i64 5, .int .i64 7] rfl
  rw [show (w.alloc (.cells #[.int .i64 2, .int .i64 4, .int .i64 9] 3)).heap.size = P + 1 by simp [hP]] at HX2
  rw [show ((w.alloc (.cells #[.int .i64 2, .int .i64 4, .int .i64 9] 3)).alloc (.cells #[.int .i64 1, .int .i64 6, .int .i64 8] 3)).heap.size = P + 1 + 1 by simp [hP]] at HX3
  rw [hP] at HX1
  have B0 : Below w.heap.size w (((w.alloc (.cells #[.int .i64 2, .int .i64 4, .int .i64 9] 3)).alloc (.cells #[.int .i64 1, .int .i64 6, .int .i64 8] 3)).alloc (.cells #[.int .i64 3, .int .i64 5, .int .i64 7] 3)) := (((Below.refl _ _).alloc (Nat.le_refl _) _).alloc (by simp) _).alloc (by simp; omega) _
  have HY2 := HX2.below ((Below.refl (P + 1 + 1) ((w.alloc (.cells #[.int .i64 2, .int .i64 4, .int .i64 9] 3)).alloc (.cells #[.int .i64 1, .int .i64 6, .int .i64 8] 3))).alloc (by simp [hP]) (.cells #[.int .i64 3, .int .i64 5, .int .i64 7] 3)) (by omega)
  have HY1 := HX1.below (((Below.refl (P + 1) (w.alloc (.cells #[.int .i64 2, .int .i64 4, .int .i64 9] 3))).alloc (by simp [hP]) (.cells #[.int .i64 1, .int .i64 6, .int .i64 8] 3)).alloc (by simp [hP]) (.cells #[.int .i64 3, .int .i64 5, .int .i64 7] 3)) (by omega)
  have D1 := hide HY1
  have D2 := hide HY2
  have D3 := hide HX3
  have HB0 := hide B0
  clear HX1 HX2 HX3 HY1 HY2 B0
  go_enter Try.func7, Try.ntmps7
  go_wp2_with fail
  generalize hw3 : (((w.alloc (.cells #[.int .i64 2, .int .i64 4, .int .i64 9] 3)).alloc (.cells #[.int .i64 1, .int .i64 6, .int .i64 8] 3)).alloc (.cells #[.int .i64 3, .int .i64 5, .int .i64 7] 3)) = w3 at *
  clear hw3
  refine (Duel_yes _ 3 3 _ 3 3 [2, 4, 9] [1, 6, 8] w3 (rd3 w3 P 2 4 9 D1.out) (rd3 w3 (P + 1) 1 6 8 D2.out) ws3 ws3).mono ?_
  rw [ring1.1, ring1.2.1, ring1.2.2]
  rintro e w4 ⟨rfl, hB4⟩
  have F2 := hide (D2.out.below hB4 D2.out.lt)
  have F3 := hide (D3.out.below hB4 D3.out.lt)
  have F1 := hide (D1.out.below hB4 D1.out.lt)
  have HB4 := hide (HB0.out.trans (hB4.mono HB0.out.size))
  clear hB4 D1 D2 D3
  go_wp2_with fail
  refine (Duel_yes _ 3 3 _ 3 3 [1, 6, 8] [3, 5, 7] w4 (rd3 w4 (P + 1) 1 6 8 F2.out) (rd3 w4 (P + 1 + 1) 3 5 7 F3.out) ws3 ws3).mono ?_
  rw [ring2.1, ring2.2.1, ring2.2.2]
  rintro e w5 ⟨rfl, hB5⟩
  have G3 := hide (F3.out.below hB5 F3.out.lt)
  have G1 := hide (F1.out.below hB5 F1.out.lt)
  have HB5 := hide (HB4.out.trans (hB5.mono HB4.out.size))
  clear hB5 F1 F2 F3
  go_wp2_with fail
  refine (Duel_yes _ 3 3 _ 3 3 [3, 5, 7] [2, 4, 9] w5 (rd3 w5 (P + 1 + 1) 3 5 7 G3.out) (rd3 w5 P 2 4 9 G1.out) ws3 ws3).mono ?_
  rw [ring3.1, ring3.2.1, ring3.2.2]
  rintro e w6 ⟨rfl, hB6⟩
  have HB6 := hide (HB5.out.trans (hB6.mono HB5.out.size))
  clear hB6 G1 G3
  go_wp2_with fail
  by_cases hw : wsB (n0 : Int) = true ∨ wsB (n1 : Int) = true
  · have hw' : wsB (n1 : Int) = true ∨ wsB (n0 : Int) = true := hw.symm
    refine (Duel_no _ _ _ _ _ _ w6 hw).mono ?_
    clear hw
    rintro e w7 ⟨rfl, hB7⟩
    have HB7 := hide (HB6.out.trans (hB7.mono HB6.out.size))
    have HW := hide hw'
    clear hB7 hw'
    go_wp2_with fail
    refine (Duel_no _ _ _ _ _ _ w7 HW.out).mono ?_
    rintro e w8 ⟨rfl, hB8⟩
    have HB8 := hide (HB7.out.trans (hB8.mono HB7.out.size))
    clear hB8
    go_wp2_with fail
    go_ret
    exact ⟨rfl, HB8.out⟩
  · have hw1 : wsB (n0 : Int) = false := by cases h : wsB (n0 : Int); rfl; exact absurd (Or.inl h) hw
    have hw2 : wsB (n1 : Int) = false := by cases h : wsB (n1 : Int); rfl; exact absurd (Or.inr h) hw
    obtain ⟨q1, q2⟩ := (ws_iff n0).1 hw1
    obtain ⟨q3, q4⟩ := (ws_iff n1).1 hw2
    have HW1 := hide hw1
    have HW2 := hide hw2
    clear hw hw1 hw2
    refine (Duel_yes _ _ _ _ _ _ A B w6 (H0.out.mono HB6.out) (H1.out.mono HB6.out) HW1.out HW2.out).mono ?_
    rintro e w7 ⟨rfl, hB7⟩
    have HB7 := hide (HB6.out.trans (hB7.mono HB6.out.size))
    clear hB7
    obtain ⟨y0, hy0⟩ : ∃ y, dN A B 0 = y := ⟨_, rfl⟩
    obtain ⟨y1, hy1⟩ : ∃ y, dN A B 1 = y := ⟨_, rfl⟩
    obtain ⟨y2, hy2⟩ : ∃ y, dN A B 2 = y := ⟨_, rfl⟩
    have htot := dN_total A B
    rw [hy0, hy1, hy2, HLA.out, HLB.out] at htot
    rw [hy0, hy1, hy2]
    have hnn : n0 * n1 ≤ 400 := Nat.le_trans (Nat.mul_le_mul q2 q4) (by omega)
    have HY0 := hide hy0
    have HY1 := hide hy1
    have HY2 := hide hy2
    clear hy0 hy1 hy2
    go_wp2_with fail
    refine (Duel_yes _ _ _ _ _ _ B A w7 (H1.out.mono HB7.out) (H0.out.mono HB7.out) HW2.out HW1.out).mono ?_
    rintro e w8 ⟨rfl, hB8⟩
    have HB8 := hide (HB7.out.trans (hB8.mono HB7.out.size))
    clear hB8
    rw [dN_flip A B 2 0 (by omega), dN_flip A B 1 1 (by omega), dN_flip A B 0 2 (by omega), HY0.out, HY1.out, HY2.out]
    obtain ⟨T, hT⟩ : ∃ T, n0 * n1 = T := ⟨_, rfl⟩
    rw [hT] at htot hnn
    have hTe : (n0 : Int) * (n1 : Int) = (T : Int) := by rw [← hT]; simp
    have hs : (y2 : Int) + (y1 : Int) + (y0 : Int) = (T : Int) := by omega
    have b0 : y0 ≤ 400 := by omega
    have b1 : y1 ≤ 400 := by omega
    have b2 : y2 ≤ 400 := by omega
    have z0 : ((y0 : Int) == (y0 : Int)) = true := by simp
    have z1 : ((y1 : Int) == (y1 : Int)) = true := by simp
    have z2 : ((y2 : Int) == (y2 : Int)) = true := by simp
    have zT : ((T : Int) == (T : Int)) = true := by simp
    clear hT htot
    go_wp2_with fail
    go_ret
    exact ⟨rfl, HB8.out⟩

end Go.Proofs.Ytonmgbepkdlklaa
