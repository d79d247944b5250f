/-
  Seeds gathered one pit after another. No conditions beyond those that each theorem bears.
-/
import Derived.Test.YtmdnoiebodaikaaSpread
namespace Go.Proofs.Ytmdnoiebodaikaa
open Go.RowKit

/-- What lies at q goes to s. -/
def mvS (S : List Int) (q s : Nat) : List Int := (S.set q 0).set s (S.getD s 0 + S.getD q 0)

theorem mvS_length (S : List Int) (q s : Nat) : (mvS S q s).length = S.length := by simp [mvS]

theorem mvS_getD (S : List Int) (q s j : Nat) (hq : q < S.length) (hs : s < S.length) : (mvS S q s).getD j 0 = if j = s then S.getD s 0 + S.getD q 0 else if j = q then 0 else S.getD j 0 := by
  rw [mvS, getD_set _ _ _ _ (by rw [List.length_set]; exact hs), getD_set _ _ _ _ hq]

theorem mvS_fit {p : Nat} {S : List Int} (hl : 2 * (p + 1) ≤ S.length) (h : Fit p S) {q s : Nat} (hq : q < 2 * (p + 1)) (hs : s < 2 * (p + 1)) (hne : q ≠ s) : Fit p (mvS S q s) := by
  refine ⟨fun i hi => ?_, ?_⟩
  · rw [mvS_getD _ _ _ _ (by omega) (by omega)]
    have h1 := h.pos s hs
    have h2 := h.pos q hq
    have h3 := h.pos i hi
    split
    · omega
    · split <;> omega
  · have e : (S.set q 0).getD s 0 = S.getD s 0 := by rw [getD_set _ _ _ _ (by omega), if_neg (fun e => hne e.symm)]
    rw [mvS, tot_set p _ _ _ hs (by rw [List.length_set]; exact hl), tot_set p _ _ _ hq hl, e]
    have := h.sum
    omega

def gk (p x : Nat) : Nat → List Int → List Int
  | 0, S => S
  | k + 1, S => mvS (gk p x k S) (pl p x k) (pl p x p)

def gx (p : Nat) : Nat → List Int → List Int
  | 0, S => S
  | x + 1, S => gk p x p (gx p x S)

theorem gk_zero (p x : Nat) (S : List Int) : gk p x 0 S = S := rfl
theorem gk_succ (p x k : Nat) (S : List Int) : gk p x (k + 1) S = mvS (gk p x k S) (pl p x k) (pl p x p) := rfl
theorem gx_zero (p : Nat) (S : List Int) : gx p 0 S = S := rfl
theorem gx_succ (p x : Nat) (S : List Int) : gx p (x + 1) S = gk p x p (gx p x S) := rfl

theorem gk_length (p x : Nat) (S : List Int) : ∀ k, (gk p x k S).length = S.length
  | 0 => rfl
  | k + 1 => by rw [gk, mvS_length, gk_length p x S k]

theorem pl_ne {p x k : Nat} (hk : k < p) : pl p x k ≠ pl p x p := by unfold pl; omega

theorem gk_fit {p x : Nat} (hx : x ≤ 1) {S : List Int} (hl : 2 * (p + 1) ≤ S.length) (h : Fit p S) : ∀ k, k ≤ p → Fit p (gk p x k S)
  | 0, _ => h
  | k + 1, hk => by
    rw [gk]
    exact mvS_fit (by rw [gk_length]; exact hl) (gk_fit hx hl h k (by omega)) (pl_lt hx (by omega)) (pl_lt hx (Nat.le_refl _)) (pl_ne hk)

theorem gx_length (p : Nat) (S : List Int) : ∀ x, (gx p x S).length = S.length
  | 0 => rfl
  | x + 1 => by rw [gx, gk_length, gx_length p S x]

theorem gx_fit {p : Nat} {S : List Int} (hl : 2 * (p + 1) ≤ S.length) (h : Fit p S) : ∀ x, x ≤ 2 → Fit p (gx p x S)
  | 0, _ => h
  | x + 1, hx => by
    rw [gx]
    exact gk_fit (by omega) (by rw [gx_length]; exact hl) (gx_fit hl h x (by omega)) p (Nat.le_refl _)

theorem gk_getD {p x : Nat} (hx : x ≤ 1) {S : List Int} (hl : 2 * (p + 1) ≤ S.length) (j : Nat) : ∀ k, k ≤ p → (gk p x k S).getD j 0 = if j = pl p x p then S.getD (pl p x p) 0 + inK p x k S else if pl p x 0 ≤ j ∧ j < pl p x k then 0 else S.getD j 0
  | 0, _ => by
    rw [gk, inK_zero]
    split
    · next h => rw [h]; omega
    · rw [if_neg (by omega)]
  | k + 1, hk => by
    have h1 := pl_lt (p := p) hx (show k ≤ p by omega)
    have h2 := pl_lt (p := p) hx (Nat.le_refl p)
    have a1 := gk_getD hx hl (pl p x p) k (by omega)
    have a2 := gk_getD hx hl (pl p x k) k (by omega)
    rw [if_pos rfl] at a1
    rw [if_neg (pl_ne (by omega)), if_neg (by omega)] at a2
    rw [gk, mvS_getD _ _ _ _ (by rw [gk_length]; omega) (by rw [gk_length]; omega), a1, a2, gk_getD hx hl j k (by omega), inK_succ]
    by_cases e : j = pl p x p
    · rw [if_pos e, if_pos e]; omega
    · rw [if_neg e, if_neg e, if_neg e]
      have e1 : pl p x (k + 1) = pl p x k + 1 := by unfold pl; omega
      have e2 : pl p x 0 ≤ pl p x k := by unfold pl; omega
      by_cases e3 : j = pl p x k
      · rw [if_pos e3, if_pos (by omega)]
      · rw [if_neg e3]
        by_cases e4 : pl p x 0 ≤ j ∧ j < pl p x k
        · rw [if_pos e4, if_pos (by omega)]
        · rw [if_neg e4, if_neg (by omega)]

theorem gk_both {p k : Nat} {S : List Int} (hk : k ≤ p) (hl : 2 * (p + 1) ≤ S.length) (j : Nat) : (gk p 1 k (gk p 0 k S)).getD j 0 = if j = 2 * p + 1 then S.getD (2 * p + 1) 0 + inK p 1 k S else if p + 1 ≤ j ∧ j < p + 1 + k then 0 else if j = p then S.getD p 0 + inK p 0 k S else if j < k then 0 else S.getD j 0 := by
  have hin : inK p 1 k (gk p 0 k S) = inK p 1 k S := by
    unfold inK
    apply sumN_congr
    intro i hi
    rw [gk_getD (by omega) hl _ k hk]
    simp only [pl0, pl1]
    rw [if_neg (by omega), if_neg (by omega)]
  rw [gk_getD (by omega) (by rw [gk_length]; exact hl) j k hk, hin, gk_getD (by omega) hl _ k hk, gk_getD (by omega) hl _ k hk]
  simp only [pl0, pl1]
  rw [show p + 1 + p = 2 * p + 1 by omega, if_neg (show ¬ 2 * p + 1 = p by omega), if_neg (show ¬ (0 ≤ 2 * p + 1 ∧ 2 * p + 1 < k) by omega)]
  by_cases e : j = 2 * p + 1
  · rw [if_pos e, if_pos e]
  · rw [if_neg e, if_neg e]
    by_cases e2 : p + 1 ≤ j ∧ j < p + 1 + k
    · rw [if_pos (by omega), if_pos e2]
    · rw [if_neg (by omega), if_neg e2]
      by_cases e3 : j = p
      · rw [if_pos e3, if_pos e3]
      · rw [if_neg e3, if_neg e3]
        by_cases e4 : j < k
        · rw [if_pos (by omega), if_pos e4]
        · rw [if_neg (by omega), if_neg e4]

theorem gx_gth {p : Nat} {S : List Int} (hl : 2 * (p + 1) ≤ S.length) : gx p 2 S = gth p S := by
  show gk p 1 p (gk p 0 p S) = _
  refine getD_ext _ _ S.length (by rw [gk_length, gk_length]) (gth_length p S) fun j hj => ?_
  rw [gk_both (Nat.le_refl _) hl, gth_getD _ _ _ hj, inK_all, inK_all]
  by_cases e : j = 2 * p + 1
  · rw [if_pos e, if_neg (by omega), if_pos e]
  · rw [if_neg e]
    by_cases e2 : j = p
    · rw [if_neg (by omega), if_pos e2, if_pos e2]
    · rw [if_neg e2, if_neg e2, if_neg e]
      by_cases e3 : j < 2 * p + 2
      · rw [if_pos e3]
        by_cases e4 : p + 1 ≤ j ∧ j < p + 1 + p
        · rw [if_pos e4]
        · rw [if_neg e4, if_pos (by omega)]
      · rw [if_neg (by omega), if_neg (by omega), if_neg e3]

end Go.Proofs.Ytmdnoiebodaikaa
