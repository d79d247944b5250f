/-
  Boards turned around. No conditions beyond those that each theorem bears.
-/
import Derived.Test.YtmdnoiebodaikaaVMath
namespace Go.Proofs.Ytmdnoiebodaikaa
open Go.RowKit

/-- The other player's numbers first. -/
def rot (p : Nat) (S : List Int) : List Int := S.drop (p + 1) ++ S.take (p + 1)

/-- Where a place comes. -/
def tau (p q : Nat) : Nat := if q < p + 1 then q + (p + 1) else q - (p + 1)

theorem rot_length {p : Nat} {S : List Int} (hl : S.length = 2 * (p + 1)) : (rot p S).length = 2 * (p + 1) := by
  simp [rot, hl]; omega

theorem tau_lt {p q : Nat} (h : q < 2 * (p + 1)) : tau p q < 2 * (p + 1) := by unfold tau; split <;> omega
theorem tau_tau {p q : Nat} (h : q < 2 * (p + 1)) : tau p (tau p q) = q := by
  unfold tau
  split
  · rw [if_neg (by omega)]; omega
  · rw [if_pos (by omega)]; omega
theorem tau_inj {p q r : Nat} (hq : q < 2 * (p + 1)) (hr : r < 2 * (p + 1)) : tau p q = tau p r ↔ q = r :=
  ⟨fun h => by rw [← tau_tau hq, h, tau_tau hr], fun h => by rw [h]⟩

theorem rot_getD {p : Nat} {S : List Int} (hl : S.length = 2 * (p + 1)) (j : Nat) (hj : j < 2 * (p + 1)) : (rot p S).getD j 0 = S.getD (tau p j) 0 := by
  unfold rot tau
  by_cases e : j < p + 1
  · rw [if_pos e]
    simp only [List.getD]
    rw [List.getElem?_append_left (by rw [List.length_drop, hl]; omega), List.getElem?_drop, Nat.add_comm]
  · rw [if_neg e]
    simp only [List.getD]
    rw [List.getElem?_append_right (by rw [List.length_drop, hl]; omega), List.length_drop, hl, show 2 * (p + 1) - (p + 1) = p + 1 by omega, List.getElem?_take, if_pos (by omega)]

theorem rot_set {p : Nat} {S : List Int} (hl : S.length = 2 * (p + 1)) (q : Nat) (hq : q < 2 * (p + 1)) (x : Int) : rot p (S.set q x) = (rot p S).set (tau p q) x := by
  have hl2 : (S.set q x).length = 2 * (p + 1) := by rw [List.length_set]; exact hl
  refine getD_ext _ _ (2 * (p + 1)) (rot_length hl2) (by rw [List.length_set]; exact rot_length hl) fun j hj => ?_
  rw [rot_getD hl2 j hj, getD_set _ _ _ _ (by omega), getD_set _ _ _ _ (by rw [rot_length hl]; exact tau_lt hq), rot_getD hl j hj]
  by_cases e : j = tau p q
  · rw [if_pos e, if_pos (by rw [e, tau_tau hq])]
  · rw [if_neg e, if_neg (fun h => e (by rw [← h, tau_tau hj]))]

theorem pl_tau {p t i : Nat} (ht : t ≤ 1) (hi : i ≤ p) : pl p (1 - t) i = tau p (pl p t i) := by
  unfold tau
  rcases (show t = 0 ∨ t = 1 by omega) with rfl | rfl
  · simp only [pl0, Nat.sub_zero, pl1]
    rw [if_pos (by omega)]; omega
  · simp only [pl1, Nat.sub_self, pl0]
    rw [if_neg (by omega)]; omega

theorem mod_tau {p q : Nat} (hq : q < 2 * (p + 1)) : (tau p q + 1) % (2 * (p + 1)) = tau p ((q + 1) % (2 * (p + 1))) := by
  by_cases e : q + 1 = 2 * (p + 1)
  · rw [e, Nat.mod_self]
    unfold tau
    rw [if_neg (by omega), if_pos (by omega), Nat.mod_eq_of_lt (by omega)]
    omega
  · rw [Nat.mod_eq_of_lt (show q + 1 < 2 * (p + 1) by omega)]
    unfold tau
    by_cases e2 : q < p + 1
    · rw [if_pos e2]
      by_cases e3 : q + 1 < p + 1
      · rw [if_pos e3, Nat.mod_eq_of_lt (by omega)]; omega
      · rw [if_neg e3, show q + (p + 1) + 1 = 2 * (p + 1) by omega, Nat.mod_self]; omega
    · rw [if_neg e2, if_neg (by omega), Nat.mod_eq_of_lt (by omega)]; omega

theorem nx_tau {p t q : Nat} (ht : t ≤ 1) (hq : q < 2 * (p + 1)) : nx p (1 - t) (tau p q) = tau p (nx p t q) := by
  have hr : (q + 1) % (2 * (p + 1)) < 2 * (p + 1) := Nat.mod_lt _ (by omega)
  unfold nx
  rw [mod_tau hq, mod_tau hr, pl_tau (t := 1 - t) (by omega) (Nat.le_refl p)]
  by_cases e : (q + 1) % (2 * (p + 1)) = pl p (1 - t) p
  · rw [if_pos e, if_pos (by rw [e])]
  · rw [if_neg e, if_neg (fun h => e ((tau_inj hr (pl_lt (by omega) (Nat.le_refl p))).1 h))]

theorem spr_tau {p t : Nat} (ht : t ≤ 1) : ∀ k S q, S.length = 2 * (p + 1) → q < 2 * (p + 1) → spr p (1 - t) k (rot p S) (tau p q) = (rot p (spr p t k S q).1, tau p (spr p t k S q).2)
  | 0, S, q, _, _ => rfl
  | k + 1, S, q, hl, hq => by
    have hn := nx_lt p t q
    rw [spr, spr, nx_tau ht hq, rot_getD hl _ (tau_lt hn), tau_tau hn, ← rot_set hl _ hn]
    exact spr_tau ht k _ _ (by rw [List.length_set]; exact hl) hn

theorem inP_tau {p x : Nat} (hx : x ≤ 1) {S : List Int} (hl : S.length = 2 * (p + 1)) : inP p (1 - x) (rot p S) = inP p x S := by
  unfold inP
  refine sumN_congr p fun i hi => ?_
  have h1 := pl_lt (p := p) hx (show i ≤ p by omega)
  rw [pl_tau hx (by omega), rot_getD hl _ (tau_lt h1), tau_tau h1]

theorem inP_tau0 {p : Nat} {S : List Int} (hl : S.length = 2 * (p + 1)) : inP p 0 (rot p S) = inP p 1 S := inP_tau (x := 1) (by omega) hl
theorem inP_tau1 {p : Nat} {S : List Int} (hl : S.length = 2 * (p + 1)) : inP p 1 (rot p S) = inP p 0 S := inP_tau (x := 0) (by omega) hl

theorem overB_tau {p : Nat} {S : List Int} (hl : S.length = 2 * (p + 1)) : overB p (rot p S) = overB p S := by
  unfold overB
  rw [inP_tau0 hl, inP_tau1 hl, Bool.or_comm]

theorem rot_store0 {p : Nat} {S : List Int} (hl : S.length = 2 * (p + 1)) : (rot p S).getD p 0 = S.getD (2 * p + 1) 0 := by
  rw [rot_getD hl p (by omega)]
  unfold tau
  rw [if_pos (by omega), show p + (p + 1) = 2 * p + 1 by omega]
theorem rot_store1 {p : Nat} {S : List Int} (hl : S.length = 2 * (p + 1)) : (rot p S).getD (2 * p + 1) 0 = S.getD p 0 := by
  rw [rot_getD hl _ (by omega)]
  unfold tau
  rw [if_neg (by omega), show 2 * p + 1 - (p + 1) = p by omega]

theorem leadS_tau {p : Nat} {S : List Int} (hl : S.length = 2 * (p + 1)) : leadS p (rot p S) = -leadS p S := by
  unfold leadS
  rw [inP_tau0 hl, inP_tau1 hl, rot_store0 hl, rot_store1 hl]
  omega

theorem Fit.rot {p : Nat} {S : List Int} (hl : S.length = 2 * (p + 1)) (h : Fit p S) : Fit p (rot p S) := by
  refine ⟨fun i hi => ?_, ?_⟩
  · rw [rot_getD hl i hi]
    exact h.pos _ (tau_lt hi)
  · have := h.sum
    rw [tot_parts] at this ⊢
    rw [inP_tau0 hl, inP_tau1 hl, rot_store0 hl, rot_store1 hl]
    omega

theorem gth_tau {p : Nat} {S : List Int} (hl : S.length = 2 * (p + 1)) : gth p (rot p S) = rot p (gth p S) := by
  have hl2 : (gth p S).length = 2 * (p + 1) := by rw [gth_length]; exact hl
  refine getD_ext _ _ (2 * (p + 1)) (by rw [gth_length]; exact rot_length hl) (rot_length hl2) fun j hj => ?_
  have ht := tau_lt hj
  rw [gth_getD _ _ _ (by rw [rot_length hl]; exact hj), rot_getD hl2 j hj, gth_getD _ _ _ (by rw [hl]; exact ht), inP_tau0 hl, inP_tau1 hl, rot_store0 hl, rot_store1 hl]
  unfold tau
  by_cases e1 : j = p
  · rw [if_pos e1, if_pos (show j < p + 1 by omega), if_neg (show ¬ j + (p + 1) = p by omega), if_pos (show j + (p + 1) = 2 * p + 1 by omega)]
  · rw [if_neg e1]
    by_cases e2 : j = 2 * p + 1
    · rw [if_pos e2, if_neg (show ¬ j < p + 1 by omega), if_pos (show j - (p + 1) = p by omega)]
    · rw [if_neg e2, if_pos (show j < 2 * p + 2 by omega)]
      by_cases e3 : j < p + 1
      · rw [if_pos e3, if_neg (show ¬ j + (p + 1) = p by omega), if_neg (show ¬ j + (p + 1) = 2 * p + 1 by omega), if_pos (show j + (p + 1) < 2 * p + 2 by omega)]
      · rw [if_neg e3, if_neg (show ¬ j - (p + 1) = p by omega), if_neg (show ¬ j - (p + 1) = 2 * p + 1 by omega), if_pos (show j - (p + 1) < 2 * p + 2 by omega)]

theorem endS_tau {p : Nat} {S : List Int} (hl : S.length = 2 * (p + 1)) : endS p (rot p S) = rot p (endS p S) := by
  unfold endS
  rw [overB_tau hl, gth_tau hl]
  split <;> rfl

theorem across_tau {p t q : Nat} (ht : t ≤ 1) (h1 : pl p t 0 ≤ q) (h2 : q < pl p t p) : 2 * p - tau p q = tau p (2 * p - q) := by
  unfold tau
  rcases (show t = 0 ∨ t = 1 by omega) with rfl | rfl
  · simp only [pl0] at h1 h2
    rw [if_pos (by omega), if_neg (by omega)]; omega
  · simp only [pl1] at h1 h2
    rw [if_neg (by omega), if_pos (by omega)]; omega

theorem pit_tau {p t q : Nat} (ht : t ≤ 1) (hq : q < 2 * (p + 1)) : (pl p (1 - t) 0 ≤ tau p q ∧ tau p q < pl p (1 - t) p) ↔ (pl p t 0 ≤ q ∧ q < pl p t p) := by
  unfold tau
  rcases (show t = 0 ∨ t = 1 by omega) with rfl | rfl
  · simp only [pl0, Nat.sub_zero, pl1]
    split <;> omega
  · simp only [pl1, Nat.sub_self, pl0]
    split <;> omega

theorem capB_tau {p t q : Nat} (ht : t ≤ 1) {S : List Int} (hl : S.length = 2 * (p + 1)) (hq : q < 2 * (p + 1)) : capB p (1 - t) (rot p S) (tau p q) = capB p t S q := by
  rw [Bool.eq_iff_iff]
  unfold capB
  rw [decide_eq_true_eq, decide_eq_true_eq]
  rw [rot_getD hl _ (tau_lt hq), tau_tau hq]
  by_cases hpit : pl p t 0 ≤ q ∧ q < pl p t p
  · have h2 : 2 * p - q < 2 * (p + 1) := by omega
    rw [across_tau ht hpit.1 hpit.2, rot_getD hl _ (tau_lt h2), tau_tau h2]
    have := (pit_tau (p := p) ht hq).2 hpit
    constructor
    · rintro ⟨-, -, h3, h4⟩
      exact ⟨hpit.1, hpit.2, h3, h4⟩
    · rintro ⟨-, -, h3, h4⟩
      exact ⟨this.1, this.2, h3, h4⟩
  · constructor
    · rintro ⟨h1, h2, -, -⟩
      exact absurd ((pit_tau (p := p) ht hq).1 ⟨h1, h2⟩) hpit
    · rintro ⟨h1, h2, -, -⟩
      exact absurd ⟨h1, h2⟩ hpit

theorem capS_tau {p t q : Nat} (ht : t ≤ 1) {S : List Int} (hl : S.length = 2 * (p + 1)) (hq : q < 2 * (p + 1)) : capS p (1 - t) (rot p S) (tau p q) = rot p (capS p t S q) := by
  unfold capS
  rw [capB_tau ht hl hq]
  split
  · next hc =>
    obtain ⟨h1, h2, -, -⟩ := capB_facts hc
    have h3 : 2 * p - q < 2 * (p + 1) := by omega
    have hs := pl_lt (p := p) ht (Nat.le_refl p)
    have l1 : (S.set q 0).length = 2 * (p + 1) := by rw [List.length_set]; exact hl
    have l2 : ((S.set q 0).set (2 * p - q) 0).length = 2 * (p + 1) := by rw [List.length_set]; exact l1
    rw [across_tau ht h1 h2, pl_tau ht (Nat.le_refl p), rot_getD hl _ (tau_lt h3), tau_tau h3, rot_getD hl _ (tau_lt hs), tau_tau hs, rot_set l2 _ hs, rot_set l1 _ h3, rot_set hl _ hq]
  · rfl

theorem sown_tau {p t i : Nat} (ht : t ≤ 1) (hi : i < p) {S : List Int} (hl : S.length = 2 * (p + 1)) : sown p (1 - t) i (rot p S) = (rot p (sown p t i S).1, tau p (sown p t i S).2) := by
  have ha := pl_lt (p := p) ht (show i ≤ p by omega)
  unfold sown
  rw [pl_tau ht (by omega), rot_getD hl _ (tau_lt ha), tau_tau ha, ← rot_set hl _ ha]
  exact spr_tau ht _ _ _ (by rw [List.length_set]; exact hl) ha

theorem sowS_tau {p t i : Nat} (ht : t ≤ 1) (hi : i < p) {S : List Int} (hl : S.length = 2 * (p + 1)) : sowS p (1 - t) i (rot p S) = rot p (sowS p t i S) := by
  unfold sowS
  rw [sown_tau ht hi hl]
  simp only
  rw [capS_tau ht (by rw [sown_length]; exact hl) (sown_lt ht hi), endS_tau (by rw [capS_length, sown_length]; exact hl)]

theorem agB_tau {p t i : Nat} (ht : t ≤ 1) (hi : i < p) {S : List Int} (hl : S.length = 2 * (p + 1)) : agB p (1 - t) i (rot p S) = agB p t i S := by
  unfold agB
  rw [sown_tau ht hi hl, Bool.eq_iff_iff]
  simp only [decide_eq_true_eq]
  rw [pl_tau ht (Nat.le_refl p)]
  exact tau_inj (sown_lt ht hi) (pl_lt ht (Nat.le_refl p))

theorem sowT_tau {p t i : Nat} (ht : t ≤ 1) (hi : i < p) {S : List Int} (hl : S.length = 2 * (p + 1)) : sowT p (1 - t) i (rot p S) = 1 - sowT p t i S := by
  unfold sowT
  rw [agB_tau ht hi hl]
  split <;> omega

theorem bet_tau {t : Nat} (ht : t ≤ 1) (x y : Int) : bet (1 - t) (-x) (-y) = bet t x y := by
  unfold bet
  rcases (show t = 0 ∨ t = 1 by omega) with rfl | rfl
  · rw [if_neg (by omega), if_pos rfl, Bool.eq_iff_iff]; simp
  · rw [if_pos (by omega), if_neg (by omega), Bool.eq_iff_iff]; simp

theorem bst_tau {p t : Nat} (ht : t ≤ 1) {S : List Int} (hl : S.length = 2 * (p + 1)) (V : Nat → List Int → Int × Int) : ∀ k, k ≤ p →
    (∀ i, i < k → S.getD (pl p t i) 0 ≠ 0 → V (1 - sowT p t i S) (rot p (sowS p t i S)) = (-(V (sowT p t i S) (sowS p t i S)).1, (V (sowT p t i S) (sowS p t i S)).2)) →
    bst V p (1 - t) (rot p S) k = (-(bst V p t S k).1, (bst V p t S k).2)
  | 0, _, _ => by simp [bst]
  | k + 1, hk, h => by
    have ih := bst_tau ht hl V k (by omega) (fun i hi => h i (by omega))
    have ha := pl_lt (p := p) ht (show k ≤ p by omega)
    have e1 : (rot p S).getD (pl p (1 - t) k) 0 = S.getD (pl p t k) 0 := by rw [pl_tau ht (by omega), rot_getD hl _ (tau_lt ha), tau_tau ha]
    rw [bst, bst, e1, ih]
    by_cases e : S.getD (pl p t k) 0 = 0
    · rw [if_pos e, if_pos e]
    · rw [if_neg e, if_neg e, sowT_tau ht (by omega) hl, sowS_tau ht (by omega) hl, h k (by omega) e, bet_tau ht]
      split
      · rfl
      · rfl

theorem val_tau {p : Nat} (hp : p ≤ 6) : ∀ N t S, ms p S < N → t ≤ 1 → S.length = 2 * (p + 1) → Fit p S → val p (1 - t) (rot p S) = (-(val p t S).1, (val p t S).2)
  | 0, _, _, h, _, _, _ => by omega
  | N + 1, t, S, h, ht, hl, hf => by
    cases hov : overB p S with
    | true => rw [val_over hov, val_over (by rw [overB_tau hl]; exact hov), leadS_tau hl]
    | false =>
      rw [val_eq hp ht (by omega) hf hov, val_eq hp (by omega) (by rw [rot_length hl]; exact Nat.le_refl _) (hf.rot hl) (by rw [overB_tau hl]; exact hov)]
      refine bst_tau ht hl (val p) p (Nat.le_refl _) fun i hi hz => ?_
      have hm := ms_sowS hp ht hi (by omega) hf hz
      exact val_tau hp N _ _ (by omega) (sowT_le ht) (by rw [sowS_length]; exact hl) (sowS_fit ht hi (by omega) hf).1

end Go.Proofs.Ytmdnoiebodaikaa
