/-
  'gameroomkeep.FourAdds' returns true. No conditions beyond those that the theorem bears.
-/
import Derived.Test.YtkdbobicpnbmoaaDoorAdM
namespace Go.Proofs.YtkdbobicpnbmoaaDoor
open Go.RowKit

attribute [local irreducible] cdp zer

set_option maxRecDepth 100000 in
set_option maxHeartbeats 4000000 in
theorem adds_any (x y z : Int) (w : World) (hT : Tab w) (hx : -9223372036854775808 ≤ x ∧ x ≤ 9223372036854775807) (hy : -9223372036854775808 ≤ y ∧ y ≤ 9223372036854775807) (hz : -9223372036854775808 ≤ z ∧ z ≤ 9223372036854775807) :
    Calls Tryd.prog 7 #[.int .i64 x, .int .i64 y, .int .i64 z] w fun e w' => e = .returned (.bool true) ∧ Below w.heap.size w w' := by
  have H1 := hide (picked_any x 10 w hx.1 hx.2 (by omega) (by omega))
  have H2 := hide (picked_any y 10 w hy.1 hy.2 (by omega) (by omega))
  have H3 := hide (picked_any z 10 w hz.1 hz.2 (by omega) (by omega))
  have l1 := pk_lt x 10 (by omega)
  have l2 := pk_lt y 10 (by omega)
  have l3 := pk_lt z 10 (by omega)
  generalize pk x 10 = p1 at *
  generalize pk y 10 = p2 at *
  generalize pk z 10 = p3 at *
  clear hx hy hz
  obtain ⟨a, ha⟩ : ∃ a, 1 + p1 = a := ⟨_, rfl⟩
  obtain ⟨b, hb⟩ : ∃ b, 1 + p2 = b := ⟨_, rfl⟩
  obtain ⟨k, hk⟩ : ∃ k, 1 + p3 = k := ⟨_, rfl⟩
  have e1 : (1 : Int) + (p1 : Int) = (a : Int) := by omega
  have e2 : (1 : Int) + (p2 : Int) = (b : Int) := by omega
  have e3 : (1 : Int) + (p3 : Int) = (k : Int) := by omega
  have ha' : 1 ≤ a ∧ a ≤ 10 := by omega
  have hb' : 1 ≤ b ∧ b ≤ 10 := by omega
  have hk' : 1 ≤ k ∧ k ≤ 10 := by omega
  have HC0 := hide (fun W (hT : Tab W) => Count_yes a b k 0 ha' hb' hk' (by omega) W hT)
  have HC1 := hide (fun W (hT : Tab W) => Count_yes a b k 1 ha' hb' hk' (by omega) W hT)
  have HC2 := hide (fun W (hT : Tab W) => Count_yes a b k 2 ha' hb' hk' (by omega) W hT)
  rw [cdp_zero] at HC0
  rw [cdp1_empty a b k 1 hb'.1] at HC1
  rw [cdp2_empty a b k ha'.1 hb'.1 hk'.1] at HC2
  have HT := hide hT
  clear hT ha hb hk l1 l2 l3
  by_cases hk1 : 1 < k
  · by_cases hb1 : b = 1
    · obtain ⟨a1, ha1⟩ : ∃ a1, a - 1 = a1 := ⟨_, rfl⟩
      obtain ⟨Q, hQ⟩ : ∃ Q, a * a1 = Q := ⟨_, rfl⟩
      obtain ⟨Q2, hQ2⟩ : ∃ Q2, a * a = Q2 := ⟨_, rfl⟩
      have hQb : Q ≤ 100 := by rw [← hQ]; exact Nat.mul_le_mul ha'.2 (show a1 ≤ 10 by omega)
      have hQ2b : Q2 ≤ 100 := by rw [← hQ2]; exact Nat.mul_le_mul ha'.2 ha'.2
      have m1 : (a : Int) * (a1 : Int) = (Q : Int) := by rw [← hQ]; simp
      have m2 : (a : Int) * (a : Int) = (Q2 : Int) := by rw [← hQ2]; simp
      have s1 : (a : Int) - 1 = (a1 : Int) := by omega
      have g1 : (1 : Int) < (k : Int) := by omega
      have g2 : ((b : Int) == 1) = true := by simp; omega
      have hw : wantC a b k = Q := by unfold wantC; rw [if_pos hk1, if_pos hb1, ha1, hQ]
      rw [hw] at HC2
      clear hw hQ hQ2 ha1 hk1 hb1
      go_enter Tryd.func7, Tryd.ntmps7
      go_wp2_with fail
      refine H1.out.mono ?_
      rintro e w1 ⟨rfl, h1⟩
      subst w1
      go_wp2_with fail
      refine H2.out.mono ?_
      rintro e w1 ⟨rfl, h1⟩
      subst w1
      go_wp2_with fail
      refine H3.out.mono ?_
      rintro e w1 ⟨rfl, h1⟩
      subst w1
      go_wp2_with fail
      refine (HC0.out w HT.out).mono ?_
      rintro e w2 ⟨rfl, hb2⟩
      have HB2 := hide hb2
      have HT2 := hide (HT.out.mono hb2)
      clear hb2
      go_wp2_with fail
      refine (HC1.out w2 HT2.out).mono ?_
      rintro e w3 ⟨rfl, hb3⟩
      have HB3 := hide (HB2.out.trans (hb3.mono HB2.out.size))
      have HT3 := hide (HT2.out.mono hb3)
      clear hb3
      go_wp2_with fail
      refine (HC2.out w3 HT3.out).mono ?_
      rintro e w4 ⟨rfl, hb4⟩
      have HB4 := hide (HB3.out.trans (hb4.mono HB3.out.size))
      clear hb4
      go_wp2_with fail
      go_ret
      exact ⟨by rfl, HB4.out⟩
    · obtain ⟨Q2, hQ2⟩ : ∃ Q2, a * a = Q2 := ⟨_, rfl⟩
      have hQ2b : Q2 ≤ 100 := by rw [← hQ2]; exact Nat.mul_le_mul ha'.2 ha'.2
      have m2 : (a : Int) * (a : Int) = (Q2 : Int) := by rw [← hQ2]; simp
      have g1 : (1 : Int) < (k : Int) := by omega
      have g2 : ((b : Int) == 1) = false := by simp; omega
      have hw : wantC a b k = Q2 := by unfold wantC; rw [if_pos hk1, if_neg hb1, hQ2]
      rw [hw] at HC2
      clear hw hQ2 hk1 hb1
      go_enter Tryd.func7, Tryd.ntmps7
      go_wp2_with fail
      refine H1.out.mono ?_
      rintro e w1 ⟨rfl, h1⟩
      subst w1
      go_wp2_with fail
      refine H2.out.mono ?_
      rintro e w1 ⟨rfl, h1⟩
      subst w1
      go_wp2_with fail
      refine H3.out.mono ?_
      rintro e w1 ⟨rfl, h1⟩
      subst w1
      go_wp2_with fail
      refine (HC0.out w HT.out).mono ?_
      rintro e w2 ⟨rfl, hb2⟩
      have HB2 := hide hb2
      have HT2 := hide (HT.out.mono hb2)
      clear hb2
      go_wp2_with fail
      refine (HC1.out w2 HT2.out).mono ?_
      rintro e w3 ⟨rfl, hb3⟩
      have HB3 := hide (HB2.out.trans (hb3.mono HB2.out.size))
      have HT3 := hide (HT2.out.mono hb3)
      clear hb3
      go_wp2_with fail
      refine (HC2.out w3 HT3.out).mono ?_
      rintro e w4 ⟨rfl, hb4⟩
      have HB4 := hide (HB3.out.trans (hb4.mono HB3.out.size))
      clear hb4
      go_wp2_with fail
      go_ret
      exact ⟨by rfl, HB4.out⟩
  · have g1 : ¬ (1 : Int) < (k : Int) := by omega
    have hw : wantC a b k = 0 := by unfold wantC; rw [if_neg hk1]
    rw [hw] at HC2
    clear hw hk1
    go_enter Tryd.func7, Tryd.ntmps7
    go_wp2_with fail
    refine H1.out.mono ?_
    rintro e w1 ⟨rfl, h1⟩
    subst w1
    go_wp2_with fail
    refine H2.out.mono ?_
    rintro e w1 ⟨rfl, h1⟩
    subst w1
    go_wp2_with fail
    refine H3.out.mono ?_
    rintro e w1 ⟨rfl, h1⟩
    subst w1
    go_wp2_with fail
    refine (HC0.out w HT.out).mono ?_
    rintro e w2 ⟨rfl, hb2⟩
    have HB2 := hide hb2
    have HT2 := hide (HT.out.mono hb2)
    clear hb2
    go_wp2_with fail
    refine (HC1.out w2 HT2.out).mono ?_
    rintro e w3 ⟨rfl, hb3⟩
    have HB3 := hide (HB2.out.trans (hb3.mono HB2.out.size))
    have HT3 := hide (HT2.out.mono hb3)
    clear hb3
    go_wp2_with fail
    refine (HC2.out w3 HT3.out).mono ?_
    rintro e w4 ⟨rfl, hb4⟩
    have HB4 := hide (HB3.out.trans (hb4.mono HB3.out.size))
    clear hb4
    go_wp2_with fail
    go_ret
    exact ⟨by rfl, HB4.out⟩

end Go.Proofs.YtkdbobicpnbmoaaDoor
