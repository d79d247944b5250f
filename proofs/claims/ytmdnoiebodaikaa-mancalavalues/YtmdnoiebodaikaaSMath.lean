/-
  The document's sowing, in plain words. No conditions beyond those that each theorem bears.
-/
import Derived.Test.YtmdnoiebodaikaaRef2
import Derived.Test.YtmdnoiebodaikaaGMath
namespace Go.Proofs.Ytmdnoiebodaikaa
open Go.RowKit

theorem within_yes (x lo hi : Int) (w : World) (h1 : lo ≤ x) (h2 : x ≤ hi) : Calls Try.prog 24 #[.int .i64 x, .int .i64 lo, .int .i64 hi] w fun e w' => e = .returned (.bool true) ∧ w' = w :=
  (within_any x lo hi w).mono fun _ _ h => ⟨h.1.trans (ret_bool (by simp [inB, h1, h2])), h.2⟩

theorem within_no (x lo hi : Int) (w : World) (h : x < lo ∨ hi < x) : Calls Try.prog 24 #[.int .i64 x, .int .i64 lo, .int .i64 hi] w fun e w' => e = .returned (.bool false) ∧ w' = w :=
  (within_any x lo hi w).mono fun _ _ h' => ⟨h'.1.trans (ret_bool (by simp [inB]; omega)), h'.2⟩

/-- Behind a step onto the other's store. -/
theorem nx_skip {p t q r : Nat} (h : (q + 1) % (2 * (p + 1)) = r) (hr : r = pl p (1 - t) p) : nx p t q = nx p t r := by
  have hlt : r < 2 * (p + 1) := by rw [← h]; exact Nat.mod_lt _ (by omega)
  have hne : (r + 1) % (2 * (p + 1)) ≠ r := by
    by_cases e : r + 1 = 2 * (p + 1)
    · rw [e, Nat.mod_self]; omega
    · rw [Nat.mod_eq_of_lt (by omega)]; omega
  unfold nx
  rw [h, if_pos hr, if_neg (by rw [← hr]; exact hne)]

theorem nx_step {p t q r : Nat} (h : (q + 1) % (2 * (p + 1)) = r) (hr : r ≠ pl p (1 - t) p) : nx p t q = r := by
  unfold nx
  rw [h, if_neg hr]

theorem spr_skip {p t q r k : Nat} {T : List Int} (h : nx p t q = nx p t r) (hk : 0 < k) : spr p t k T q = spr p t k T r := by
  obtain ⟨k', rfl⟩ : ∃ k', k = k' + 1 := ⟨k - 1, by omega⟩
  rw [spr, spr, h]

theorem spr_zero (p t : Nat) (T : List Int) (q : Nat) : spr p t 0 T q = (T, q) := rfl
theorem spr_succ (p t k : Nat) (T : List Int) (q : Nat) : spr p t (k + 1) T q = spr p t k (T.set (nx p t q) (T.getD (nx p t q) 0 + 1)) (nx p t q) := rfl

/-- Pits of both, gathered side by side. -/
def gb (p : Nat) : Nat → List Int → List Int
  | 0, X => X
  | k + 1, X => mvS (mvS (gb p k X) k p) (p + 1 + k) (2 * p + 1)

theorem gb_zero (p : Nat) (X : List Int) : gb p 0 X = X := rfl
theorem gb_succ (p k : Nat) (X : List Int) : gb p (k + 1) X = mvS (mvS (gb p k X) k p) (p + 1 + k) (2 * p + 1) := rfl

theorem gb_length (p : Nat) (X : List Int) : ∀ k, (gb p k X).length = X.length
  | 0 => rfl
  | k + 1 => by rw [gb_succ, mvS_length, mvS_length, gb_length p X k]

theorem gb_fit {p : Nat} {X : List Int} (hl : 2 * (p + 1) ≤ X.length) (h : Fit p X) : ∀ k, k ≤ p → Fit p (gb p k X)
  | 0, _ => h
  | k + 1, hk => by
    rw [gb_succ]
    exact mvS_fit (by rw [mvS_length, gb_length]; exact hl) (mvS_fit (by rw [gb_length]; exact hl) (gb_fit hl h k (by omega)) (by omega) (by omega) (by omega)) (by omega) (by omega) (by omega)

theorem gb_getD {p : Nat} {X : List Int} (hl : 2 * (p + 1) ≤ X.length) : ∀ k, k ≤ p → ∀ j, (gb p k X).getD j 0 = if j = 2 * p + 1 then X.getD (2 * p + 1) 0 + inK p 1 k X else if p + 1 ≤ j ∧ j < p + 1 + k then 0 else if j = p then X.getD p 0 + inK p 0 k X else if j < k then 0 else X.getD j 0
  | 0, _, j => by
    rw [gb_zero, inK_zero, inK_zero]
    split
    · next e => rw [e]; omega
    · rw [if_neg (by omega)]
      split
      · next e => rw [e]; omega
      · rw [if_neg (by omega)]
  | k + 1, hk, j => by
    have ih := gb_getD hl k (by omega)
    have L0 : (gb p k X).length = X.length := gb_length p X k
    have a1 : (gb p k X).getD p 0 = X.getD p 0 + inK p 0 k X := by rw [ih p, if_neg (by omega), if_neg (by omega), if_pos rfl]
    have a2 : (gb p k X).getD k 0 = X.getD k 0 := by rw [ih k, if_neg (by omega), if_neg (by omega), if_neg (by omega), if_neg (by omega)]
    have a3 : (gb p k X).getD (2 * p + 1) 0 = X.getD (2 * p + 1) 0 + inK p 1 k X := by rw [ih (2 * p + 1), if_pos rfl]
    have a4 : (gb p k X).getD (p + 1 + k) 0 = X.getD (p + 1 + k) 0 := by rw [ih (p + 1 + k), if_neg (by omega), if_neg (by omega), if_neg (by omega), if_neg (by omega)]
    have m1 : ∀ j, (mvS (gb p k X) k p).getD j 0 = if j = p then X.getD p 0 + inK p 0 k X + X.getD k 0 else if j = k then 0 else (gb p k X).getD j 0 := fun j => by
      rw [mvS_getD _ _ _ _ (by omega) (by omega), a1, a2]
    rw [gb_succ, mvS_getD _ _ _ _ (by rw [mvS_length]; omega) (by rw [mvS_length]; omega), m1 (2 * p + 1), m1 (p + 1 + k), m1 j, if_neg (show ¬ 2 * p + 1 = p by omega), if_neg (show ¬ 2 * p + 1 = k by omega), if_neg (show ¬ p + 1 + k = p by omega), if_neg (show ¬ p + 1 + k = k by omega), a3, a4, ih j, inK_succ, inK_succ, pl0, pl1]
    repeat' split
    all_goals first | rfl | omega | (exfalso; omega)

theorem gb_gth {p : Nat} {X : List Int} (hl : 2 * (p + 1) ≤ X.length) : gb p p X = gth p X := by
  refine getD_ext _ _ X.length (gb_length p X p) (gth_length p X) fun j hj => ?_
  rw [gb_getD hl p (Nat.le_refl _) j, gth_getD _ _ _ hj, inK_all, inK_all]
  by_cases e : j = 2 * p + 1
  · rw [if_pos e, if_neg (by omega), if_pos e]
  · rw [if_neg e]
    by_cases e2 : j = p
    · rw [if_neg (by omega), if_pos e2, if_pos e2]
    · rw [if_neg e2, if_neg e2, if_neg e]
      by_cases e3 : j < 2 * p + 2
      · rw [if_pos e3]
        by_cases e4 : p + 1 ≤ j ∧ j < p + 1 + p
        · rw [if_pos e4]
        · rw [if_neg e4, if_pos (by omega)]
      · rw [if_neg (by omega), if_neg (by omega), if_neg e3]

theorem mv_form (T : List Int) {q s : Nat} (h : q ≠ s) (x : Int) (hx : x = T.getD s 0 + T.getD q 0) : (T.set s x).set q 0 = mvS T q s := by
  rw [mvS, hx, List.set_comm _ _ h]

theorem cap_form (T : List Int) {q r s : Nat} (h1 : q ≠ s) (h2 : r ≠ s) (v y : Int) : ((T.set s (v + (y + 1))).set q 0).set r 0 = ((T.set q 0).set r 0).set s (v + (1 + y)) := by
  rw [List.set_comm _ _ (show s ≠ q from fun e => h1 e.symm), List.set_comm _ _ (show s ≠ r from fun e => h2 e.symm), Int.add_comm y 1]

end Go.Proofs.Ytmdnoiebodaikaa
