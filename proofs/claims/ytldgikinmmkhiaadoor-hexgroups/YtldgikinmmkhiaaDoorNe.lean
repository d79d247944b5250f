/-
  The document's own question of neighbours. No conditions beyond those that each theorem bears.
-/
import Derived.Test.YtldgikinmmkhiaaDoorFc
namespace Go.Proofs.YtldgikinmmkhiaaDoor
open Go.RowKit

/-- Neighbours, by the differences of columns and rows. -/
def nearD (x y : Int) : Bool := (decide (y = 0) && (decide (x = 1) || decide (x = -1))) || (decide (y = -1) && (decide (x = 0) || decide (x = 1))) || (decide (y = 1) && (decide (x = 0) || decide (x = -1)))

theorem nearD_adj {ax ay bx bY : Nat} : nearD ((bx : Int) - (ax : Int)) ((bY : Int) - (ay : Int)) = true ↔ adj ax ay bx bY := by
  unfold nearD adj
  simp only [Bool.or_eq_true, Bool.and_eq_true, decide_eq_true_iff]
  constructor
  · rintro ((⟨h1, h2 | h2⟩ | ⟨h1, h2 | h2⟩) | ⟨h1, h2 | h2⟩)
    · exact Or.inl ⟨by omega, by omega⟩
    · exact Or.inr (Or.inl ⟨by omega, by omega⟩)
    · exact Or.inr (Or.inr (Or.inr (Or.inl ⟨by omega, by omega⟩)))
    · exact Or.inr (Or.inr (Or.inr (Or.inr (Or.inl ⟨by omega, by omega⟩))))
    · exact Or.inr (Or.inr (Or.inl ⟨by omega, by omega⟩))
    · exact Or.inr (Or.inr (Or.inr (Or.inr (Or.inr ⟨by omega, by omega⟩))))
  · rintro (⟨h1, h2⟩ | ⟨h1, h2⟩ | ⟨h1, h2⟩ | ⟨h1, h2⟩ | ⟨h1, h2⟩ | ⟨h1, h2⟩)
    · exact Or.inl (Or.inl ⟨by omega, Or.inl (by omega)⟩)
    · exact Or.inl (Or.inl ⟨by omega, Or.inr (by omega)⟩)
    · exact Or.inr ⟨by omega, Or.inl (by omega)⟩
    · exact Or.inl (Or.inr ⟨by omega, Or.inl (by omega)⟩)
    · exact Or.inl (Or.inr ⟨by omega, Or.inr (by omega)⟩)
    · exact Or.inr ⟨by omega, Or.inr (by omega)⟩

theorem nearD_iff {n a b : Nat} (hb : b < n * n) : nearD (((b % n : Nat) : Int) - ((a % n : Nat) : Int)) (((b / n : Nat) : Int) - ((a / n : Nat) : Int)) = true ↔ b ∈ nbs n a := by
  rw [nbs_iff, nearD_adj]
  exact ⟨fun h => ⟨hb, h⟩, fun h => h.2⟩

theorem dif_b {n x y : Nat} (hn : n ≤ 10) (h1 : x < n) (h2 : y < n) : -10 ≤ (y : Int) - (x : Int) ∧ (y : Int) - (x : Int) ≤ 10 := by omega
theorem four (y : Int) : y = 0 ∨ y = -1 ∨ y = 1 ∨ (y ≠ 0 ∧ y ≠ -1 ∧ y ≠ 1) := by omega
theorem wrap_s {n y : Nat} (hn : n ≤ 10) (h : y < n) : wrap64 (y : Int) = y := by unfold wrap64; omega

set_option maxRecDepth 100000 in
set_option maxHeartbeats 8000000 in
theorem near_walk (n a b : Nat) (hn : 1 ≤ n ∧ n ≤ 10) (ha : a < n * n) (hb : b < n * n) (w : World) :
    Calls Tryd.prog 31 #[.int .i64 n, .int .i64 a, .int .i64 b] w fun e w' => e = .returned (.bool (nearD (((b % n : Nat) : Int) - ((a % n : Nat) : Int)) (((b / n : Nat) : Int) - ((a / n : Nat) : Int)))) ∧ ∃ q, w' = w.drewN q := by
  have hnn : n * n ≤ 100 := Nat.mul_le_mul hn.2 hn.2
  have ha1 : a ≤ 100 := Nat.le_trans (Nat.le_of_lt ha) hnn
  have hb1 : b ≤ 100 := Nat.le_trans (Nat.le_of_lt hb) hnn
  have hwn : ¬ (n : Int) = 0 := by omega
  obtain ⟨a1, a2, -⟩ := of_place ha
  obtain ⟨b1, b2, -⟩ := of_place hb
  obtain ⟨p1, p2, p3, p4⟩ := quo_rem (p := a) (n := n)
  obtain ⟨q1, q2, q3, q4⟩ := quo_rem (p := b) (n := n)
  generalize a % n = ax at *
  generalize a / n = ay at *
  generalize b % n = bx at *
  generalize b / n = bY at *
  obtain ⟨x, hx⟩ : ∃ x, (bx : Int) - (ax : Int) = x := ⟨_, rfl⟩
  obtain ⟨y, hy⟩ : ∃ y, (bY : Int) - (ay : Int) = y := ⟨_, rfl⟩
  have hxb := dif_b hn.2 a1 b1
  have hyb := dif_b hn.2 a2 b2
  rw [hx] at hxb
  rw [hy] at hyb
  rw [hx, hy]
  clear ha hb hnn
  rcases four y with hcy | hcy | hcy | hcy
  · rcases four x with hcx | hcx | hcx | hcx
    · have y0 : (y == 0) = true := by simp [hcy]
      have ym : (y == (-1)) = false := by simp [hcy]
      have y1 : (y == 1) = false := by simp [hcy]
      have x0 : (x == 0) = true := by simp [hcx]
      have xm : (x == (-1)) = false := by simp [hcx]
      have x1 : (x == 1) = false := by simp [hcx]
      have HV : Hid (nearD x y = false) := hide (by unfold nearD; simp [hcx, hcy])
      clear hcy hcx
      go_enter Tryd.func31, Tryd.ntmps31
      go_wp2
      go_quiet (fail)
      go_wp2
      go_ret
      exact ⟨ret_bool (by rw [HV.out]), _, rfl⟩
    · have y0 : (y == 0) = true := by simp [hcy]
      have ym : (y == (-1)) = false := by simp [hcy]
      have y1 : (y == 1) = false := by simp [hcy]
      have x0 : (x == 0) = false := by simp [hcx]
      have xm : (x == (-1)) = true := by simp [hcx]
      have x1 : (x == 1) = false := by simp [hcx]
      have HV : Hid (nearD x y = true) := hide (by unfold nearD; simp [hcx, hcy])
      clear hcy hcx
      go_enter Tryd.func31, Tryd.ntmps31
      go_wp2
      go_quiet (fail)
      go_wp2
      go_ret
      exact ⟨ret_bool (by rw [HV.out]), _, rfl⟩
    · have y0 : (y == 0) = true := by simp [hcy]
      have ym : (y == (-1)) = false := by simp [hcy]
      have y1 : (y == 1) = false := by simp [hcy]
      have x0 : (x == 0) = false := by simp [hcx]
      have xm : (x == (-1)) = false := by simp [hcx]
      have x1 : (x == 1) = true := by simp [hcx]
      have HV : Hid (nearD x y = true) := hide (by unfold nearD; simp [hcx, hcy])
      clear hcy hcx
      go_enter Tryd.func31, Tryd.ntmps31
      go_wp2
      go_quiet (fail)
      go_wp2
      go_ret
      exact ⟨ret_bool (by rw [HV.out]), _, rfl⟩
    · have y0 : (y == 0) = true := by simp [hcy]
      have ym : (y == (-1)) = false := by simp [hcy]
      have y1 : (y == 1) = false := by simp [hcy]
      have x0 : (x == 0) = false := by simp [hcx]
      have xm : (x == (-1)) = false := by simp [hcx]
      have x1 : (x == 1) = false := by simp [hcx]
      have HV : Hid (nearD x y = false) := hide (by unfold nearD; simp [hcx, hcy])
      clear hcy hcx
      go_enter Tryd.func31, Tryd.ntmps31
      go_wp2
      go_quiet (fail)
      go_wp2
      go_ret
      exact ⟨ret_bool (by rw [HV.out]), _, rfl⟩
  · rcases four x with hcx | hcx | hcx | hcx
    · have y0 : (y == 0) = false := by simp [hcy]
      have ym : (y == (-1)) = true := by simp [hcy]
      have y1 : (y == 1) = false := by simp [hcy]
      have x0 : (x == 0) = true := by simp [hcx]
      have xm : (x == (-1)) = false := by simp [hcx]
      have x1 : (x == 1) = false := by simp [hcx]
      have HV : Hid (nearD x y = true) := hide (by unfold nearD; simp [hcx, hcy])
      clear hcy hcx
      go_enter Tryd.func31, Tryd.ntmps31
      go_wp2
      go_quiet (fail)
      go_wp2
      go_ret
      exact ⟨ret_bool (by rw [HV.out]), _, rfl⟩
    · have y0 : (y == 0) = false := by simp [hcy]
      have ym : (y == (-1)) = true := by simp [hcy]
      have y1 : (y == 1) = false := by simp [hcy]
      have x0 : (x == 0) = false := by simp [hcx]
      have xm : (x == (-1)) = true := by simp [hcx]
      have x1 : (x == 1) = false := by simp [hcx]
      have HV : Hid (nearD x y = false) := hide (by unfold nearD; simp [hcx, hcy])
      clear hcy hcx
      go_enter Tryd.func31, Tryd.ntmps31
      go_wp2
      go_quiet (fail)
      go_wp2
      go_ret
      exact ⟨ret_bool (by rw [HV.out]), _, rfl⟩
    · have y0 : (y == 0) = false := by simp [hcy]
      have ym : (y == (-1)) = true := by simp [hcy]
      have y1 : (y == 1) = false := by simp [hcy]
      have x0 : (x == 0) = false := by simp [hcx]
      have xm : (x == (-1)) = false := by simp [hcx]
      have x1 : (x == 1) = true := by simp [hcx]
      have HV : Hid (nearD x y = true) := hide (by unfold nearD; simp [hcx, hcy])
      clear hcy hcx
      go_enter Tryd.func31, Tryd.ntmps31
      go_wp2
      go_quiet (fail)
      go_wp2
      go_ret
      exact ⟨ret_bool (by rw [HV.out]), _, rfl⟩
    · have y0 : (y == 0) = false := by simp [hcy]
      have ym : (y == (-1)) = true := by simp [hcy]
      have y1 : (y == 1) = false := by simp [hcy]
      have x0 : (x == 0) = false := by simp [hcx]
      have xm : (x == (-1)) = false := by simp [hcx]
      have x1 : (x == 1) = false := by simp [hcx]
      have HV : Hid (nearD x y = false) := hide (by unfold nearD; simp [hcx, hcy])
      clear hcy hcx
      go_enter Tryd.func31, Tryd.ntmps31
      go_wp2
      go_quiet (fail)
      go_wp2
      go_ret
      exact ⟨ret_bool (by rw [HV.out]), _, rfl⟩
  · rcases four x with hcx | hcx | hcx | hcx
    · have y0 : (y == 0) = false := by simp [hcy]
      have ym : (y == (-1)) = false := by simp [hcy]
      have y1 : (y == 1) = true := by simp [hcy]
      have x0 : (x == 0) = true := by simp [hcx]
      have xm : (x == (-1)) = false := by simp [hcx]
      have x1 : (x == 1) = false := by simp [hcx]
      have HV : Hid (nearD x y = true) := hide (by unfold nearD; simp [hcx, hcy])
      clear hcy hcx
      go_enter Tryd.func31, Tryd.ntmps31
      go_wp2
      go_quiet (fail)
      go_wp2
      go_ret
      exact ⟨ret_bool (by rw [HV.out]), _, rfl⟩
    · have y0 : (y == 0) = false := by simp [hcy]
      have ym : (y == (-1)) = false := by simp [hcy]
      have y1 : (y == 1) = true := by simp [hcy]
      have x0 : (x == 0) = false := by simp [hcx]
      have xm : (x == (-1)) = true := by simp [hcx]
      have x1 : (x == 1) = false := by simp [hcx]
      have HV : Hid (nearD x y = true) := hide (by unfold nearD; simp [hcx, hcy])
      clear hcy hcx
      go_enter Tryd.func31, Tryd.ntmps31
      go_wp2
      go_quiet (fail)
      go_wp2
      go_ret
      exact ⟨ret_bool (by rw [HV.out]), _, rfl⟩
    · have y0 : (y == 0) = false := by simp [hcy]
      have ym : (y == (-1)) = false := by simp [hcy]
      have y1 : (y == 1) = true := by simp [hcy]
      have x0 : (x == 0) = false := by simp [hcx]
      have xm : (x == (-1)) = false := by simp [hcx]
      have x1 : (x == 1) = true := by simp [hcx]
      have HV : Hid (nearD x y = false) := hide (by unfold nearD; simp [hcx, hcy])
      clear hcy hcx
      go_enter Tryd.func31, Tryd.ntmps31
      go_wp2
      go_quiet (fail)
      go_wp2
      go_ret
      exact ⟨ret_bool (by rw [HV.out]), _, rfl⟩
    · have y0 : (y == 0) = false := by simp [hcy]
      have ym : (y == (-1)) = false := by simp [hcy]
      have y1 : (y == 1) = true := by simp [hcy]
      have x0 : (x == 0) = false := by simp [hcx]
      have xm : (x == (-1)) = false := by simp [hcx]
      have x1 : (x == 1) = false := by simp [hcx]
      have HV : Hid (nearD x y = false) := hide (by unfold nearD; simp [hcx, hcy])
      clear hcy hcx
      go_enter Tryd.func31, Tryd.ntmps31
      go_wp2
      go_quiet (fail)
      go_wp2
      go_ret
      exact ⟨ret_bool (by rw [HV.out]), _, rfl⟩
  · rcases four x with hcx | hcx | hcx | hcx
    · have y0 : (y == 0) = false := by simp [hcy]
      have ym : (y == (-1)) = false := by simp [hcy]
      have y1 : (y == 1) = false := by simp [hcy]
      have x0 : (x == 0) = true := by simp [hcx]
      have xm : (x == (-1)) = false := by simp [hcx]
      have x1 : (x == 1) = false := by simp [hcx]
      have HV : Hid (nearD x y = false) := hide (by unfold nearD; simp [hcx, hcy])
      clear hcy hcx
      go_enter Tryd.func31, Tryd.ntmps31
      go_wp2
      go_quiet (fail)
      go_wp2
      go_ret
      exact ⟨ret_bool (by rw [HV.out]), _, rfl⟩
    · have y0 : (y == 0) = false := by simp [hcy]
      have ym : (y == (-1)) = false := by simp [hcy]
      have y1 : (y == 1) = false := by simp [hcy]
      have x0 : (x == 0) = false := by simp [hcx]
      have xm : (x == (-1)) = true := by simp [hcx]
      have x1 : (x == 1) = false := by simp [hcx]
      have HV : Hid (nearD x y = false) := hide (by unfold nearD; simp [hcx, hcy])
      clear hcy hcx
      go_enter Tryd.func31, Tryd.ntmps31
      go_wp2
      go_quiet (fail)
      go_wp2
      go_ret
      exact ⟨ret_bool (by rw [HV.out]), _, rfl⟩
    · have y0 : (y == 0) = false := by simp [hcy]
      have ym : (y == (-1)) = false := by simp [hcy]
      have y1 : (y == 1) = false := by simp [hcy]
      have x0 : (x == 0) = false := by simp [hcx]
      have xm : (x == (-1)) = false := by simp [hcx]
      have x1 : (x == 1) = true := by simp [hcx]
      have HV : Hid (nearD x y = false) := hide (by unfold nearD; simp [hcx, hcy])
      clear hcy hcx
      go_enter Tryd.func31, Tryd.ntmps31
      go_wp2
      go_quiet (fail)
      go_wp2
      go_ret
      exact ⟨ret_bool (by rw [HV.out]), _, rfl⟩
    · have y0 : (y == 0) = false := by simp [hcy]
      have ym : (y == (-1)) = false := by simp [hcy]
      have y1 : (y == 1) = false := by simp [hcy]
      have x0 : (x == 0) = false := by simp [hcx]
      have xm : (x == (-1)) = false := by simp [hcx]
      have x1 : (x == 1) = false := by simp [hcx]
      have HV : Hid (nearD x y = false) := hide (by unfold nearD; simp [hcx, hcy])
      clear hcy hcx
      go_enter Tryd.func31, Tryd.ntmps31
      go_wp2
      go_quiet (fail)
      go_wp2
      go_ret
      exact ⟨ret_bool (by rw [HV.out]), _, rfl⟩

theorem near_any (n a b : Nat) (hn : 1 ≤ n ∧ n ≤ 10) (ha : a < n * n) (hb : b < n * n) (w : World) :
    Calls Tryd.prog 31 #[.int .i64 n, .int .i64 a, .int .i64 b] w fun e w' => e = .returned (.bool (decide (b ∈ nbs n a))) ∧ ∃ q, w' = w.drewN q := by
  have h := near_walk n a b hn ha hb w
  have e : nearD (((b % n : Nat) : Int) - ((a % n : Nat) : Int)) (((b / n : Nat) : Int) - ((a / n : Nat) : Int)) = decide (b ∈ nbs n a) := by
    rw [Bool.eq_iff_iff, decide_eq_true_iff]
    exact nearD_iff hb
  rw [e] at h
  exact h

end Go.Proofs.YtldgikinmmkhiaaDoor
