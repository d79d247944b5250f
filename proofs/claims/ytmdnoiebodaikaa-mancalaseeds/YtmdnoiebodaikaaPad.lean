/-
  Boards with their empty places behind them. No conditions beyond those that each theorem bears.
-/
import Derived.Test.YtmdnoiebodaikaaSeen
import Derived.Test.YtmdnoiebodaikaaMay
import Derived.Test.YtmdnoiebodaikaaSow
namespace Go.Proofs.Ytmdnoiebodaikaa
open Go.RowKit

theorem pad_getD (S : List Int) (i : Nat) (hi : i < S.length) : (pad S).getD i 0 = S.getD i 0 := by
  simp [pad, List.getD, List.getElem?_append, hi]

theorem pad_set (S : List Int) (i : Nat) (x : Int) (hi : i < S.length) : (pad S).set i x = pad (S.set i x) := by
  simp [pad, hi]

theorem pad_take (S : List Int) : (pad S).take S.length = S := by simp [pad]

theorem inP_pad {p x : Nat} (hx : x ≤ 1) {S : List Int} (hl : S.length = 2 * (p + 1)) : inP p x (pad S) = inP p x S := by
  unfold inP
  exact sumN_congr p fun i hi => pad_getD S _ (by rw [hl]; exact pl_lt hx (by omega))

theorem tot_pad {p : Nat} {S : List Int} (hl : S.length = 2 * (p + 1)) : tot p (pad S) = tot p S := by
  unfold tot
  exact sumN_congr _ fun i hi => pad_getD S _ (by rw [hl]; exact hi)

theorem Fit.pad {p : Nat} {S : List Int} (hl : S.length = 2 * (p + 1)) (h : Fit p S) : Fit p (pad S) :=
  ⟨fun i hi => by rw [pad_getD S _ (by rw [hl]; exact hi)]; exact h.pos i hi, by rw [tot_pad hl]; exact h.sum⟩

theorem overB_pad {p : Nat} {S : List Int} (hl : S.length = 2 * (p + 1)) : overB p (pad S) = overB p S := by
  unfold overB
  rw [inP_pad (by omega) hl, inP_pad (by omega) hl]

theorem spr_pad (p t : Nat) : ∀ k S q, S.length = 2 * (p + 1) → spr p t k (pad S) q = (pad (spr p t k S q).1, (spr p t k S q).2)
  | 0, S, q, _ => rfl
  | k + 1, S, q, hl => by
    have hn := nx_lt p t q
    rw [spr, spr, pad_getD S _ (by rw [hl]; exact hn), pad_set S _ _ (by rw [hl]; exact hn), spr_pad p t k _ _ (by rw [List.length_set]; exact hl)]

theorem capB_pad {p t q : Nat} {S : List Int} (hl : S.length = 2 * (p + 1)) (hq : q < 2 * (p + 1)) : capB p t (pad S) q = capB p t S q := by
  unfold capB
  rw [pad_getD S _ (by rw [hl]; exact hq), pad_getD S _ (by rw [hl]; omega)]

theorem capS_pad {p t q : Nat} (ht : t ≤ 1) {S : List Int} (hl : S.length = 2 * (p + 1)) (hq : q < 2 * (p + 1)) : capS p t (pad S) q = pad (capS p t S q) := by
  have hs := pl_lt (p := p) ht (Nat.le_refl p)
  unfold capS
  rw [capB_pad hl hq, pad_getD S _ (by rw [hl]; exact hs), pad_getD S _ (by rw [hl]; omega), pad_set S _ _ (by rw [hl]; exact hq), pad_set _ _ _ (by rw [List.length_set, hl]; omega), pad_set _ _ _ (by rw [List.length_set, List.length_set, hl]; exact hs)]
  split <;> rfl

theorem gth_pad {p : Nat} (hp : p ≤ 6) {S : List Int} (hl : S.length = 2 * (p + 1)) : gth p (pad S) = pad (gth p S) := by
  have hl2 : (gth p S).length = 2 * (p + 1) := by rw [gth_length]; exact hl
  refine getD_ext _ _ 14 (by rw [gth_length]; exact pad_length S (by omega)) (pad_length _ (by omega)) fun j hj => ?_
  rw [gth_getD _ _ _ (by rw [pad_length S (by omega)]; exact hj), inP_pad (by omega) hl, inP_pad (by omega) hl, pad_getD S p (by omega), pad_getD S (2 * p + 1) (by omega)]
  by_cases e : j < 2 * (p + 1)
  · rw [pad_getD S j (by rw [hl]; exact e), pad_getD (gth p S) j (by rw [hl2]; exact e), gth_getD _ _ _ (by rw [hl]; exact e)]
  · rw [if_neg (by omega), if_neg (by omega), if_neg (by omega)]
    have z : ∀ T : List Int, T.length = 2 * (p + 1) → (pad T).getD j 0 = 0 := fun T hT => by
      unfold pad
      rw [List.getD, List.getElem?_append_right (by omega), List.getElem?_replicate]
      split <;> rfl
    rw [z S hl, z _ hl2]

theorem endS_pad {p : Nat} (hp : p ≤ 6) {S : List Int} (hl : S.length = 2 * (p + 1)) : endS p (pad S) = pad (endS p S) := by
  unfold endS
  rw [overB_pad hl, gth_pad hp hl]
  split <;> rfl

theorem sown_pad {p t i : Nat} (ht : t ≤ 1) (hi : i < p) {S : List Int} (hl : S.length = 2 * (p + 1)) : sown p t i (pad S) = (pad (sown p t i S).1, (sown p t i S).2) := by
  have ha := pl_lt (p := p) ht (show i ≤ p by omega)
  unfold sown
  rw [pad_getD S _ (by rw [hl]; exact ha), pad_set S _ _ (by rw [hl]; exact ha), spr_pad p t _ _ _ (by rw [List.length_set]; exact hl)]

theorem sown_length {p t i : Nat} {S : List Int} : (sown p t i S).1.length = S.length := by
  unfold sown; rw [spr_length, List.length_set]

theorem sown_lt {p t i : Nat} (ht : t ≤ 1) (hi : i < p) {S : List Int} : (sown p t i S).2 < 2 * (p + 1) := by
  unfold sown; exact spr_lt p t _ _ _ (pl_lt ht (by omega))

theorem sowS_pad {p t i : Nat} (hp : p ≤ 6) (ht : t ≤ 1) (hi : i < p) {S : List Int} (hl : S.length = 2 * (p + 1)) : sowS p t i (pad S) = pad (sowS p t i S) := by
  unfold sowS
  rw [sown_pad ht hi hl]
  simp only
  rw [capS_pad ht (by rw [sown_length]; exact hl) (sown_lt ht hi), endS_pad hp (by rw [capS_length, sown_length]; exact hl)]

theorem agB_pad {p t i : Nat} (ht : t ≤ 1) (hi : i < p) {S : List Int} (hl : S.length = 2 * (p + 1)) : agB p t i (pad S) = agB p t i S := by
  unfold agB
  rw [sown_pad ht hi hl]

theorem sowT_pad {p t i : Nat} (ht : t ≤ 1) (hi : i < p) {S : List Int} (hl : S.length = 2 * (p + 1)) : sowT p t i (pad S) = sowT p t i S := by
  unfold sowT
  rw [agB_pad ht hi hl]

/-- A board that may be: its pits, its turn. -/
theorem may_parts {S : List Int} {t : Int} (h : mayB S t = true) : ∃ p u : Nat, 1 ≤ p ∧ p ≤ 6 ∧ u ≤ 1 ∧ t = (u : Int) ∧ S.length = 2 * (p + 1) ∧ Fit p S := by
  have hm : mayP S t := of_decide_eq_true h
  obtain ⟨h1, h2, h3, h4, h5, h6, h7⟩ := hm
  obtain ⟨u, hu⟩ := Int.eq_ofNat_of_zero_le h4
  refine ⟨S.length / 2 - 1, u, by omega, by omega, by omega, hu, by omega, ?_, ?_⟩
  · intro i hi
    exact h6 i (by omega)
  · unfold tot
    rw [show 2 * (S.length / 2 - 1 + 1) = S.length by omega]
    exact h7

theorem may_mk {S : List Int} {p u : Nat} (hp1 : 1 ≤ p) (hp : p ≤ 6) (hu : u ≤ 1) (hl : S.length = 2 * (p + 1)) (hf : Fit p S) : mayB S (u : Int) = true :=
  may_yes ⟨by omega, by omega, by omega, by omega, by omega, by rw [hl]; exact hf.pos, by rw [hl]; exact hf.sum⟩

end Go.Proofs.Ytmdnoiebodaikaa
