/-
  The document's board: columns and rows, owners, who may go where: walked. No conditions beyond those that each theorem bears.
-/
import Derived.Test.YtnbaangnpoblfaaDoorNr
import Derived.Test.YtnbaangnpoblfaaDoorMay
namespace Go.Proofs.YtnbaangnpoblfaaDoor
open Go.RowKit Go.Shelf

def dkY (p : Nat) : Nat := (p - 1) / 4
def dkX (p : Nat) : Nat := if (p - 1) / 4 % 2 = 0 then 2 * ((p - 1) % 4) + 1 else 2 * ((p - 1) % 4)
def dkAt (x y : Int) : Nat := if 0 ≤ x ∧ x ≤ 7 ∧ 0 ≤ y ∧ y ≤ 7 ∧ (x + y) % 2 ≠ 0 then (4 * y + x / 2 + 1).toNat else 0

theorem darkY_any (p : Nat) (h1 : 1 ≤ p) (h2 : p ≤ 32) (w : World) : Calls Tryd.prog 44 #[.int .i64 (p : Nat)] w fun e w' => e = .returned (.int .i64 (dkY p : Nat)) ∧ w' = w := by
  obtain ⟨a, ha⟩ : ∃ a, p - 1 = a := ⟨_, rfl⟩
  have ha1 : (p : Int) - 1 = (a : Int) := by omega
  have hq2 : (a : Int) / 4 = ((a / 4 : Nat) : Int) := by omega
  have hq1 : Int.tdiv (a : Int) 4 = ((a / 4 : Nat) : Int) := by rw [Int.tdiv_eq_ediv_of_nonneg (by omega)]; omega
  have e1 : dkY p = a / 4 := by unfold dkY; rw [ha]
  rw [e1]
  have hy : a / 4 ≤ 8 := by omega
  generalize a / 4 = y at *
  clear ha e1
  go_enter Tryd.func44, Tryd.ntmps44
  go_wp2
  go_ret
  exact ⟨rfl, rfl⟩

set_option maxHeartbeats 1000000 in
theorem darkX_any (p : Nat) (h1 : 1 ≤ p) (h2 : p ≤ 32) (w : World) : Calls Tryd.prog 43 #[.int .i64 (p : Nat)] w fun e w' => e = .returned (.int .i64 (dkX p : Nat)) ∧ w' = w := by
  have HY := hide (darkY_any p h1 h2 w)
  obtain ⟨a, ha⟩ : ∃ a, p - 1 = a := ⟨_, rfl⟩
  have ha1 : (p : Int) - 1 = (a : Int) := by omega
  have hr2 : (a : Int) % 4 = ((a % 4 : Nat) : Int) := by omega
  have hr1 : Int.tmod (a : Int) 4 = ((a % 4 : Nat) : Int) := by rw [Int.tmod_eq_emod_of_nonneg (by omega)]; omega
  have e0 : dkY p = a / 4 := by unfold dkY; rw [ha]
  have e1 : dkX p = if a / 4 % 2 = 0 then 2 * (a % 4) + 1 else 2 * (a % 4) := by unfold dkX; rw [ha]
  rw [e0] at HY
  rw [e1]
  have hy : a / 4 ≤ 8 := by omega
  have hx : a % 4 ≤ 3 := by omega
  generalize a / 4 = y at *
  generalize a % 4 = x at *
  have hm2 : (y : Int) % 2 = ((y % 2 : Nat) : Int) := by omega
  have hm1 : Int.tmod (y : Int) 2 = ((y % 2 : Nat) : Int) := by rw [Int.tmod_eq_emod_of_nonneg (by omega)]; omega
  have hz : y % 2 ≤ 1 := by omega
  obtain ⟨G, hG⟩ : ∃ G, (if y % 2 = 0 then 2 * x + 1 else 2 * x) = G := ⟨_, rfl⟩
  rw [hG]
  generalize y % 2 = r at *
  clear ha e0 e1
  by_cases hr : r = 0
  · rw [if_pos hr] at hG
    have hb : ((r : Int) == 0) = true := by rw [hr]; rfl
    have hg : (2 : Int) * (x : Int) + 1 = (G : Int) := by omega
    have hG9 : G ≤ 9 := by omega
    clear hr hG
    go_enter Tryd.func43, Tryd.ntmps43
    go_wp2_with fail
    refine HY.out.mono ?_
    rintro e w1 ⟨rfl, hw1⟩
    subst w1
    go_wp2_with fail
    go_ret
    exact ⟨by first | rfl | exact ret_int (by omega), rfl⟩
  · rw [if_neg hr] at hG
    have hb : ((r : Int) == 0) = false := by simp; omega
    have hg : (2 : Int) * (x : Int) = (G : Int) := by omega
    have hG9 : G ≤ 9 := by omega
    clear hr hG
    go_enter Tryd.func43, Tryd.ntmps43
    go_wp2_with fail
    refine HY.out.mono ?_
    rintro e w1 ⟨rfl, hw1⟩
    subst w1
    go_wp2_with fail
    go_ret
    exact ⟨by first | rfl | exact ret_int (by omega), rfl⟩

set_option maxHeartbeats 2000000 in
theorem darkAt_any (x y : Int) (hx : -10 ≤ x ∧ x ≤ 20) (hy : -10 ≤ y ∧ y ≤ 20) (w : World) : Calls Tryd.prog 42 #[.int .i64 x, .int .i64 y] w fun e w' => e = .returned (.int .i64 (dkAt x y : Nat)) ∧ w' = w := by
  have HX := hide (within_any x 0 7 w)
  have HY := hide (within_any y 0 7 w)
  obtain ⟨G, hG⟩ : ∃ G, dkAt x y = G := ⟨_, rfl⟩
  rw [hG]
  unfold dkAt at hG
  by_cases h1 : 0 ≤ x ∧ x ≤ 7
  · rw [show decide (0 ≤ x ∧ x ≤ 7) = true by simpa using h1] at HX
    by_cases h2 : 0 ≤ y ∧ y ≤ 7
    · rw [show decide (0 ≤ y ∧ y ≤ 7) = true by simpa using h2] at HY
      have hm1 : Int.tmod (x + y) 2 = (x + y) % 2 := by rw [Int.tmod_eq_emod_of_nonneg (by omega)]
      have hd1 : Int.tdiv x 2 = x / 2 := by rw [Int.tdiv_eq_ediv_of_nonneg (by omega)]
      by_cases h3 : (x + y) % 2 = 0
      · rw [if_neg (fun k => k.2.2.2.2 h3)] at hG
        have hb : ((x + y) % 2 == 0) = true := by simpa using h3
        subst hG
        clear h3
        go_enter Tryd.func42, Tryd.ntmps42
        go_wp2_with fail
        refine HX.out.mono ?_
        rintro e w1 ⟨rfl, hw1⟩
        subst w1
        go_wp2_with fail
        refine HY.out.mono ?_
        rintro e w1 ⟨rfl, hw1⟩
        subst w1
        go_wp2_with fail
        go_ret
        exact ⟨rfl, rfl⟩
      · rw [if_pos ⟨h1.1, h1.2, h2.1, h2.2, h3⟩] at hG
        have hb : ((x + y) % 2 == 0) = false := by simpa using h3
        have hg : 4 * y + x / 2 + 1 = (G : Int) := by omega
        have hG1 : 0 ≤ x / 2 ∧ x / 2 ≤ 7 := by omega
        clear h3 hG
        go_enter Tryd.func42, Tryd.ntmps42
        go_wp2_with fail
        refine HX.out.mono ?_
        rintro e w1 ⟨rfl, hw1⟩
        subst w1
        go_wp2_with fail
        refine HY.out.mono ?_
        rintro e w1 ⟨rfl, hw1⟩
        subst w1
        go_wp2_with fail
        go_ret
        exact ⟨by first | rfl | exact ret_int (by omega), rfl⟩
    · rw [show decide (0 ≤ y ∧ y ≤ 7) = false by simpa using h2] at HY
      rw [if_neg (fun k => h2 ⟨k.2.2.1, k.2.2.2.1⟩)] at hG
      subst hG
      clear h1 h2
      go_enter Tryd.func42, Tryd.ntmps42
      go_wp2_with fail
      refine HX.out.mono ?_
      rintro e w1 ⟨rfl, hw1⟩
      subst w1
      go_wp2_with fail
      refine HY.out.mono ?_
      rintro e w1 ⟨rfl, hw1⟩
      subst w1
      go_wp2_with fail
      go_ret
      exact ⟨rfl, rfl⟩
  · rw [show decide (0 ≤ x ∧ x ≤ 7) = false by simpa using h1] at HX
    rw [if_neg (fun k => h1 ⟨k.1, k.2.1⟩)] at hG
    subst hG
    clear h1
    go_enter Tryd.func42, Tryd.ntmps42
    go_wp2_with fail
    refine HX.out.mono ?_
    rintro e w1 ⟨rfl, hw1⟩
    subst w1
    go_wp2_with fail
    go_ret
    exact ⟨rfl, rfl⟩

theorem ownerOf_any (x : Int) (w : World) : Calls Tryd.prog 39 #[.int .i64 x] w fun e w' => e = .returned (.int .i64 (own3 x : Nat)) ∧ w' = w := by
  by_cases h1 : 0 < x
  · have e : own3 x = 1 := by unfold own3; rw [if_pos h1]
    rw [e]
    go_enter Tryd.func39, Tryd.ntmps39
    go_wp2
    go_ret
    exact ⟨rfl, rfl⟩
  · by_cases h2 : x < 0
    · have e : own3 x = 2 := by unfold own3; rw [if_neg h1, if_pos h2]
      rw [e]
      go_enter Tryd.func39, Tryd.ntmps39
      go_wp2
      go_ret
      exact ⟨rfl, rfl⟩
    · have e : own3 x = 0 := by unfold own3; rw [if_neg h1, if_neg h2]
      rw [e]
      go_enter Tryd.func39, Tryd.ntmps39
      go_wp2
      go_ret
      exact ⟨rfl, rfl⟩

/-- A direction's column and row. -/
def dX (d : Nat) : Int := if d = 0 ∨ d = 2 then -1 else 1
def dY (d : Nat) : Int := if d < 2 then -1 else 1

set_option maxHeartbeats 2000000 in
theorem forwardMay_any (x : Int) (d : Nat) (w : World) : Calls Tryd.prog 45 #[.int .i64 x, .int .i64 (dY d)] w fun e w' => e = .returned (.bool (fwd x d)) ∧ w' = w := by
  obtain ⟨G, hG⟩ : ∃ G, fwd x d = G := ⟨_, rfl⟩
  rw [hG]
  have hy : (dY d = -1 ∧ d < 2) ∨ (dY d = 1 ∧ ¬ d < 2) := by
    unfold dY
    by_cases h : d < 2
    · rw [if_pos h]; exact Or.inl ⟨rfl, h⟩
    · rw [if_neg h]; exact Or.inr ⟨rfl, h⟩
  by_cases h1 : x = 2
  · obtain rfl : true = G := by rw [← hG]; unfold fwd; simp [h1]
    have q1 : (x == 2) = true := by simpa using h1
    generalize dY d = Y at *
    clear hG h1 hy
    go_enter Tryd.func45, Tryd.ntmps45
    go_wp2
    go_ret
    exact ⟨rfl, rfl⟩
  · have q1 : (x == 2) = false := by simpa using h1
    by_cases h2 : x = -2
    · obtain rfl : true = G := by rw [← hG]; unfold fwd; simp [h2]
      have q2 : (x == -2) = true := by simpa using h2
      generalize dY d = Y at *
      clear hG h1 h2 hy
      go_enter Tryd.func45, Tryd.ntmps45
      go_wp2
      go_ret
      exact ⟨rfl, rfl⟩
    · have q2 : (x == -2) = false := by simpa using h2
      by_cases h3 : x = 1
      · have q3 : (x == 1) = true := by simpa using h3
        have q4 : (x == -1) = false := by rw [h3]; rfl
        rcases hy with ⟨hy, hd⟩ | ⟨hy, hd⟩
        · obtain rfl : true = G := by rw [← hG]; unfold fwd; simp [h3, hd]
          rw [hy]
          clear hG h1 h2 h3 hd hy
          go_enter Tryd.func45, Tryd.ntmps45
          go_wp2
          go_ret
          exact ⟨rfl, rfl⟩
        · obtain rfl : false = G := by rw [← hG]; unfold fwd; simp [h3, hd]
          rw [hy]
          clear hG h1 h2 h3 hd hy
          go_enter Tryd.func45, Tryd.ntmps45
          go_wp2
          go_ret
          exact ⟨rfl, rfl⟩
      · have q3 : (x == 1) = false := by simpa using h3
        by_cases h4 : x = -1
        · have q4 : (x == -1) = true := by simpa using h4
          rcases hy with ⟨hy, hd⟩ | ⟨hy, hd⟩
          · obtain rfl : false = G := by rw [← hG]; unfold fwd; simp [h4, hd]
            rw [hy]
            clear hG h1 h2 h3 h4 hd hy
            go_enter Tryd.func45, Tryd.ntmps45
            go_wp2
            go_ret
            exact ⟨rfl, rfl⟩
          · obtain rfl : true = G := by rw [← hG]; unfold fwd; simp [h4, hd]
            rw [hy]
            clear hG h1 h2 h3 h4 hd hy
            go_enter Tryd.func45, Tryd.ntmps45
            go_wp2
            go_ret
            exact ⟨rfl, rfl⟩
        · have q4 : (x == -1) = false := by simpa using h4
          obtain rfl : false = G := by rw [← hG]; unfold fwd; simp [h1, h2, h3, h4]
          generalize dY d = Y at *
          clear hG h1 h2 h3 h4 hy
          go_enter Tryd.func45, Tryd.ntmps45
          go_wp2
          go_ret
          exact ⟨rfl, rfl⟩

/-- Neighbours by columns and rows. -/
theorem dk_nb : ∀ d, d < 4 → ∀ p, p < 33 → (p ≠ 0 → dkAt ((dkX p : Int) + dX d) ((dkY p : Int) + dY d) = nb d p ∧ dkAt ((dkX p : Int) + 2 * dX d) ((dkY p : Int) + 2 * dY d) = nb d (nb d p)) := by decide +kernel
theorem dk_rng : ∀ p, p < 33 → dkX p ≤ 7 ∧ dkY p ≤ 7 := by decide

end Go.Proofs.YtnbaangnpoblfaaDoor
