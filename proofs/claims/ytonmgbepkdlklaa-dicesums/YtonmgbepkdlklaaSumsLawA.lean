/-
  The law DiceSums, walked. No conditions beyond those that each theorem bears.
-/
import Derived.Test.YtonmgbepkdlklaaSumsC
import Derived.Test.YtonmgbepkdlklaaSumW
import Derived.Test.YtonmgbepkdlklaaDuel
namespace Go.Proofs.Ytonmgbepkdlklaa
open Go.RowKit

set_option maxRecDepth 100000 in
set_option maxHeartbeats 16000000 in
theorem law3_nn (a0 : Option Addr) (n0 c0 : Nat) (z0 : List Int) (a1 : Option Addr) (n1 c1 : Nat) (A : List Int) (a2 : Option Addr) (n2 c2 : Nat) (B : List Int) (w : World) (h0 : Rd w a0 n0 c0 z0) (h1 : Rd w a1 n1 c1 A) (h2 : Rd w a2 n2 c2 B) (r0 : n0 * 8 ≤ 140737488351232) (r1 : n1 * 8 ≤ 140737488351232) (r2 : n2 * 8 ≤ 140737488351232)
    (hm : mayE z0 ≠ 0)
    (hw : wsB (n1 : Int) = true ∨ wsB (n2 : Int) = true) :
    Calls Try.prog 3 #[.slice a0 n0 c0, .slice a1 n1 c1, .slice a2 n2 c2] w fun e w' => e = .returned (.bool true) ∧ Below w.heap.size w w' := by
  have m0 := h0.max
  have p0 := h0.cap
  have m1 := h1.max
  have p1 := h1.cap
  have m2 := h2.max
  have p2 := h2.cap
  unfold maxLen at m0 m1 m2
  obtain ⟨E, hE⟩ : ∃ E, mayE z0 = E := ⟨_, rfl⟩
  rw [hE] at hm
  have hE1 : (E != 0) = true := by simpa using hm
  have hE2 : (E == 0) = false := by simpa using hm
  have HE := hide hE
  have H0 := hide h0
  have H1 := hide h1
  have H2 := hide h2
  have hlt : (n1 : Int) < 1 ∨ (20 : Int) < n1 ∨ (n2 : Int) < 1 ∨ (20 : Int) < n2 := by
    rcases hw with h | h <;> (unfold wsB at h; rw [decide_eq_true_iff] at h; omega)
  have HW := hide hw
  clear hw
  clear hE h0 h1 h2 hm
  go_enter Try.func3, Try.ntmps3
  go_wp2_with fail
  refine (ints_any a0 n0 c0 z0 w H0.out r0).mono ?_
  rintro e w1 ⟨x1, k1, rfl, hR1, hB1⟩
  have HR1 := hide hR1
  have HB1 := hide hB1
  clear hR1 hB1
  go_wp2_with fail
  refine (Sums_no x1 n0 k1 z0 w1 HR1.out (by rw [HE.out]; intro h; rw [h] at hE1; cases hE1)).mono ?_
  rintro e w2 ⟨rfl, hB2⟩
  rw [HE.out]
  have HB2 := hide (HB1.out.trans (hB2.mono HB1.out.size))
  clear hB2 HB1
  go_wp2_with fail
  refine (ints_any a1 n1 c1 A w2 (H1.out.mono HB2.out) r1).mono ?_
  rintro e w3 ⟨x3, k3, rfl, hR3, hB3⟩
  have HR3 := hide hR3
  have HB3 := hide (HB2.out.trans (hB3.mono HB2.out.size))
  clear hR3 hB3
  go_wp2_with fail
  refine (ints_any a2 n2 c2 B w3 (H2.out.mono HB3.out) r2).mono ?_
  rintro e w4 ⟨x4, k4, rfl, hR4, hB4⟩
  have HR4 := hide hR4
  have HR3' := hide (HR3.out.mono hB4)
  have HB4 := hide (HB3.out.trans (hB4.mono HB3.out.size))
  clear hR4 hB4
  go_wp2_with fail
  refine (Duel_no x3 n1 k3 x4 n2 k4 w4 HW.out).mono ?_
  rintro e w5 ⟨rfl, hB5⟩
  have HB5 := hide (HB4.out.trans (hB5.mono HB4.out.size))
  clear hB5
  go_wp2_with fail
  refine (DiceMay_any a0 n0 c0 z0 w5 (H0.out.mono HB5.out)).mono ?_
  rintro e w6 ⟨rfl, hw6⟩
  subst w6
  rw [HE.out]
  by_cases d1 : (n1 : Int) < 1
  · go_wp2_with fail
    go_ret
    exact ⟨rfl, HB5.out⟩
  · have d1' : decide ((n1 : Int) < 1) = false := by simpa using d1
    by_cases d2 : (20 : Int) < (n1 : Int)
    · go_wp2_with fail
      go_ret
      exact ⟨rfl, HB5.out⟩
    · have d2' : decide ((20 : Int) < (n1 : Int)) = false := by simpa using d2
      by_cases d3 : (n2 : Int) < 1
      · go_wp2_with fail
        go_ret
        exact ⟨rfl, HB5.out⟩
      · have d3' : decide ((n2 : Int) < 1) = false := by simpa using d3
        have d4 : (20 : Int) < (n2 : Int) := by omega
        go_wp2_with fail
        go_ret
        exact ⟨rfl, HB5.out⟩

end Go.Proofs.Ytonmgbepkdlklaa
