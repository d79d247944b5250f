/-
  Chess: the small functions on pieces, sides and steps, walked. No conditions beyond those that each theorem bears.
-/
import Derived.Test.YtdblmcihklcenaaDoorCy
import Derived.Test.YtdblmcihklcenaaDoorSm
namespace Go.Proofs.YtdblmcihklcenaaDoor
open Go.RowKit Go.Shelf

theorem pieceOf_any (b : Nat) (k : Nat) (hk : k ≤ 6) (w : World) : Calls Tryd.prog 35 #[.int .i64 b, .int .i64 k] w fun e w' => e = .returned (.int .i64 (pc b k)) ∧ w' = w := by
  unfold pc
  by_cases hb : b = 0
  · subst hb
    go_enter Tryd.func35, Tryd.ntmps35
    go_wp2
    go_ret
    exact ⟨rfl, rfl⟩
  · have hb' : ((b : Int) == 0) = false := by simp; omega
    rw [if_neg hb]
    have hw : wrap64 (-(k : Int)) = -(k : Int) := by unfold wrap64; omega
    go_enter Tryd.func35, Tryd.ntmps35
    go_wp2
    go_ret
    exact ⟨by rfl, rfl⟩

theorem other_any (b : Nat) (hb : b ≤ 1) (w : World) : Calls Tryd.prog 30 #[.int .i64 b] w fun e w' => e = .returned (.int .i64 ((1 - b : Nat) : Int)) ∧ w' = w := by
  have h : (1 : Int) - (b : Int) = ((1 - b : Nat) : Int) := by omega
  obtain ⟨q, hq⟩ : ∃ q, 1 - b = q := ⟨_, rfl⟩
  rw [hq] at h ⊢
  have hqb : q ≤ 1 := by omega
  clear hq
  go_enter Tryd.func30, Tryd.ntmps30
  go_wp2
  go_ret
  exact ⟨by rfl, rfl⟩

theorem isSide_any (t : Int) (w : World) : Calls Tryd.prog 14 #[.int .i64 t] w fun e w' => e = .returned (.bool (decide (t = 0 ∨ t = 1))) ∧ w' = w := by
  by_cases h0 : t = 0
  · subst h0
    go_enter Tryd.func14, Tryd.ntmps14
    go_wp2
    go_ret
    exact ⟨by simp, rfl⟩
  · have e0 : (t == 0) = false := by simp [h0]
    by_cases h1 : t = 1
    · subst h1
      go_enter Tryd.func14, Tryd.ntmps14
      go_wp2
      go_ret
      exact ⟨by simp, rfl⟩
    · have e1 : (t == 1) = false := by simp [h1]
      rw [show decide (t = 0 ∨ t = 1) = false by simp [h0, h1]]
      go_enter Tryd.func14, Tryd.ntmps14
      go_wp2
      go_ret
      exact ⟨by simp, rfl⟩

theorem kindOf_any (x : Int) (h1 : -6 ≤ x) (h2 : x ≤ 6) (w : World) : Calls Tryd.prog 38 #[.int .i64 x] w fun e w' => e = .returned (.int .i64 (x.natAbs : Nat)) ∧ w' = w := by
  by_cases h : x < -x
  · have hm : -x = ((x.natAbs : Nat) : Int) := by omega
    rw [← hm]
    clear hm
    go_enter Tryd.func38, Tryd.ntmps38
    go_wp2 <;> first | omega | (go_ret; exact ⟨rfl, rfl⟩)
  · have hm : x = ((x.natAbs : Nat) : Int) := by omega
    rw [show Calls Tryd.prog 38 #[.int .i64 x] w (fun e w' => e = .returned (.int .i64 (x.natAbs : Nat)) ∧ w' = w) ↔ Calls Tryd.prog 38 #[.int .i64 x] w (fun e w' => e = .returned (.int .i64 x) ∧ w' = w) by rw [← hm]]
    clear hm
    go_enter Tryd.func38, Tryd.ntmps38
    go_wp2 <;> first | omega | (go_ret; exact ⟨rfl, rfl⟩)

theorem goesFar_any (x : Int) (h1 : -6 ≤ x) (h2 : x ≤ 6) (w : World) : Calls Tryd.prog 45 #[.int .i64 x] w fun e w' => e = .returned (.bool (far x)) ∧ w' = w := by
  have hk := hide (kindOf_any x h1 h2 w)
  unfold far
  have hb : x.natAbs ≤ 6 := by omega
  generalize x.natAbs = k at *
  have hc : k = 0 ∨ k = 1 ∨ k = 2 ∨ k = 3 ∨ k = 4 ∨ k = 5 ∨ k = 6 := by omega
  clear hb
  rcases hc with rfl | rfl | rfl | rfl | rfl | rfl | rfl <;>
    (go_enter Tryd.func45, Tryd.ntmps45
     go_wp2_with (refine hk.out.mono ?_; rintro e w1 ⟨rfl, hw⟩; subst w1)
     go_ret
     exact ⟨rfl, rfl⟩)

theorem inside_any (x y : Int) (w : World) : Calls Tryd.prog 44 #[.int .i64 x, .int .i64 y] w fun e w' => e = .returned (.bool (ins x y)) ∧ w' = w := by
  by_cases h1 : 0 ≤ x
  · by_cases h2 : x < 8
    · by_cases h3 : 0 ≤ y
      · by_cases h4 : y < 8
        · rw [show ins x y = true by simp [ins, h1, h2, h3, h4]]
          go_enter Tryd.func44, Tryd.ntmps44
          go_wp2
          go_ret
          exact ⟨rfl, rfl⟩
        · rw [show ins x y = false by simp [ins, h1, h2, h3, h4]]
          go_enter Tryd.func44, Tryd.ntmps44
          go_wp2
          go_ret
          exact ⟨rfl, rfl⟩
      · rw [show ins x y = false by simp [ins, h1, h2, h3]]
        go_enter Tryd.func44, Tryd.ntmps44
        go_wp2
        go_ret
        exact ⟨rfl, rfl⟩
    · rw [show ins x y = false by simp [ins, h1, h2]]
      go_enter Tryd.func44, Tryd.ntmps44
      go_wp2
      go_ret
      exact ⟨rfl, rfl⟩
  · rw [show ins x y = false by simp [ins, h1]]
    go_enter Tryd.func44, Tryd.ntmps44
    go_wp2
    go_ret
    exact ⟨rfl, rfl⟩

theorem stretch_any (x : Int) (hx : KX x) (w : World) : Calls Tryd.prog 43 #[.int .i64 x] w fun e w' => e = .returned (.tuple #[.int .i64 (sB x : Nat), .int .i64 (sE x : Nat)]) ∧ w' = w := by
  have hk := hide (kindOf_any x (by unfold KX at hx; omega) (by unfold KX at hx; omega) w)
  rcases hx with rfl | rfl | rfl | rfl | rfl | rfl | rfl | rfl | rfl | rfl | rfl | rfl <;>
    (go_enter Tryd.func43, Tryd.ntmps43
     go_wp2_with (refine hk.out.mono ?_; rintro e w1 ⟨rfl, hw⟩; subst w1)
     go_ret2
     exact ⟨rfl, rfl⟩)

end Go.Proofs.YtdblmcihklcenaaDoor
