/-
  A step on the points and a step on a side are the same. No conditions beyond those that each theorem bears.
-/
import Derived.Test.YtmboikpcbkiepaaTold
namespace Go.Proofs.Ytmboikpcbkiepaa
open Go.RowKit

theorem sg_ma (P : List Int) (t p : Nat) : sg t (ma P t p) = P.getD p 0 := by unfold sg ma; split <;> simp

theorem up_sub (z : Int) : up z - up (-z) = z := by unfold up; split <;> split <;> omega

theorem seen_men (P : List Int) (W B : Int) (t p : Nat) (hp : 1 ≤ p ∧ p ≤ 24) : (seenL P W B t).getD (aw t p) 0 = up (ma P t p) := by
  have ha := aw_lt t p hp
  rw [seenL, range_getD 52 _ _ (by omega), seenF, if_neg (by omega), if_neg (by omega), if_pos (by rw [aw_aw t p (by omega)]; omega), aw_aw t p (by omega)]

theorem seen_oth (P : List Int) (W B : Int) (t p : Nat) (hp : 1 ≤ p ∧ p ≤ 24) : (seenL P W B t).getD (26 + aw t p) 0 = up (-(ma P t p)) := by
  have ha := aw_lt t p hp
  have e : 26 + aw t p - 26 = aw t p := by omega
  rw [seenL, range_getD 52 _ _ (by omega), seenF, if_neg (by omega), if_neg (by omega), if_neg (by omega), if_pos (by rw [e, aw_aw t p (by omega)]; omega), e, aw_aw t p (by omega)]

theorem seen_bar (P : List Int) (W B : Int) (t : Nat) : (seenL P W B t).getD 25 0 = ownB W B t := by
  rw [seenL, range_getD 52 _ _ (by omega), seenF, if_pos rfl]

theorem seen_oba (P : List Int) (W B : Int) (t : Nat) : (seenL P W B t).getD 26 0 = othB W B t := by
  rw [seenL, range_getD 52 _ _ (by omega), seenF, if_neg (by omega), if_pos rfl]

theorem told_at (S : List Int) (t p : Nat) (hp : 1 ≤ p ∧ p ≤ 24) : (toldP S t).getD p 0 = sg t (S.getD (aw t p) 0 - S.getD (26 + aw t p) 0) := by
  have ha := aw_lt t p hp
  rw [toldP, range_getD 26 _ _ (by omega), toldF, if_pos (by omega)]

theorem told_edge (S : List Int) (t p : Nat) (hp : p = 0 ∨ p = 25) : (toldP S t).getD p 0 = 0 := by
  rw [toldP, range_getD 26 _ _ (by omega), toldF, if_neg (by omega)]

theorem sg_add (t : Nat) (x y : Int) : sg t (x + y) = sg t x + sg t y := by unfold sg; split <;> omega
theorem sg_sub (t : Nat) (x y : Int) : sg t (x - y) = sg t x - sg t y := by unfold sg; split <;> omega

/-- A man goes off. -/
theorem told_off (P : List Int) (W B : Int) (t f : Nat) (hl : P.length = 26) (h0 : P.getD 0 0 = 0) (h25 : P.getD 25 0 = 0) (hf : 1 ≤ f ∧ f ≤ 24) :
    toldP ((seenL P W B t).set (aw t f) ((seenL P W B t).getD (aw t f) 0 - 1)) t = P.set f (P.getD f 0 - sg t 1) := by
  have hSl := seenL_length P W B t
  have hf' := aw_lt t f hf
  refine getD_ext _ _ 26 (toldP_length _ _) (by simp [hl]) fun p hp => ?_
  rw [getD_set _ _ _ _ (by omega)]
  by_cases e : p = 0 ∨ p = 25
  · rw [told_edge _ _ _ e, if_neg (by omega)]
    rcases e with rfl | rfl
    · exact h0.symm
    · exact h25.symm
  · have hp' := aw_lt t p (by omega)
    rw [told_at _ _ _ (by omega), getD_set _ _ _ _ (by omega), getD_set _ _ _ _ (by omega), if_neg (show ¬ 26 + aw t p = aw t f by omega), seen_oth P W B t p (by omega)]
    by_cases e2 : p = f
    · subst e2
      rw [if_pos rfl, if_pos rfl, seen_men P W B t p (by omega), show up (ma P t p) - 1 - up (-(ma P t p)) = ma P t p - 1 by have := up_sub (ma P t p); omega, sg_sub, sg_ma]
    · rw [if_neg (fun h => e2 (aw_inj t p f (by omega) (by omega) h)), if_neg e2, seen_men P W B t p (by omega), up_sub, sg_ma]

/-- Where a man of the others' stood alone, none stands now. -/
def hitP (P : List Int) (t q : Nat) : Int := (if ma P t q = -1 then 0 else P.getD q 0) + sg t 1

theorem hit_at (S : List Int) (hS : S.length = 52) (f t i : Nat) (hf : 1 ≤ f ∧ f ≤ 25) (ht : 1 ≤ t ∧ t ≤ 24) (_hft : t < f) :
    (hitS S f t).getD i 0 = if i = t then S.getD t 0 + 1 else if i = f then S.getD f 0 - 1 else if i = 26 + t then 0 else if i = 26 then S.getD 26 0 + S.getD (26 + t) 0 else S.getD i 0 := by
  unfold hitS
  rw [getD_set _ _ _ _ (by simp; omega), getD_set _ _ _ _ (by simp; omega), getD_set _ _ _ _ (by simp; omega), getD_set _ _ _ _ (by omega)]

/-- A man comes to a point. -/
theorem told_hit (P : List Int) (W B : Int) (t f q : Nat) (hl : P.length = 26) (h0 : P.getD 0 0 = 0) (h25 : P.getD 25 0 = 0) (hf : 1 ≤ f ∧ f ≤ 24) (hq : 1 ≤ q ∧ q ≤ 24) (hlt : aw t q < aw t f) (hm : ¬ ma P t q < -1) :
    toldP (hitS (seenL P W B t) (aw t f) (aw t q)) t = (P.set q (hitP P t q)).set f (P.getD f 0 - sg t 1) := by
  have hSl := seenL_length P W B t
  have hf' := aw_lt t f hf
  have hq' := aw_lt t q hq
  have hfq : f ≠ q := fun e => by subst e; omega
  refine getD_ext _ _ 26 (toldP_length _ _) (by simp [hl]) fun p hp => ?_
  rw [getD_set _ _ _ _ (by simp; omega), getD_set _ _ _ _ (by omega)]
  by_cases e : p = 0 ∨ p = 25
  · rw [told_edge _ _ _ e, if_neg (by omega), if_neg (by omega)]
    rcases e with rfl | rfl
    · exact h0.symm
    · exact h25.symm
  · have hp' := aw_lt t p (by omega)
    rw [told_at _ _ _ (by omega), hit_at _ hSl _ _ _ (by omega) (by omega) hlt, hit_at _ hSl _ _ _ (by omega) (by omega) hlt]
    by_cases e1 : p = f
    · subst e1
      rw [if_pos rfl, if_neg (by omega), if_pos rfl, if_neg (by omega), if_neg (by omega), if_neg (by omega), if_neg (by omega), seen_men P W B t p (by omega), seen_oth P W B t p (by omega), show up (ma P t p) - 1 - up (-(ma P t p)) = ma P t p - 1 by have := up_sub (ma P t p); omega, sg_sub, sg_ma]
    · have n1 : aw t p ≠ aw t f := fun h => e1 (aw_inj t p f (by omega) (by omega) h)
      rw [if_neg e1]
      by_cases e2 : p = q
      · subst e2
        rw [if_pos rfl, if_pos rfl, if_neg (by omega), if_neg (by omega), if_pos rfl, seen_men P W B t p (by omega), hitP]
        have hsg := sg_ma P t p
        by_cases e3 : ma P t p = -1
        · rw [if_pos e3, e3]; simp [up]
        · have : up (ma P t p) = ma P t p := by unfold up; split <;> omega
          rw [if_neg e3, this, show ma P t p + 1 - 0 = ma P t p + 1 by omega, sg_add, hsg]
      · have n2 : aw t p ≠ aw t q := fun h => e2 (aw_inj t p q (by omega) (by omega) h)
        rw [if_neg n2, if_neg n1, if_neg (by omega), if_neg (by omega), if_neg (by omega), if_neg (by omega), if_neg (by omega), if_neg (by omega), if_neg e2, seen_men P W B t p (by omega), seen_oth P W B t p (by omega), up_sub, sg_ma]

/-- A man comes in from the bar. -/
theorem told_in (P : List Int) (W B : Int) (t q : Nat) (hl : P.length = 26) (h0 : P.getD 0 0 = 0) (h25 : P.getD 25 0 = 0) (hq : 1 ≤ q ∧ q ≤ 24) (hm : ¬ ma P t q < -1) :
    toldP (hitS (seenL P W B t) 25 (aw t q)) t = P.set q (hitP P t q) := by
  have hSl := seenL_length P W B t
  have hq' := aw_lt t q hq
  refine getD_ext _ _ 26 (toldP_length _ _) (by simp [hl]) fun p hp => ?_
  rw [getD_set _ _ _ _ (by omega)]
  by_cases e : p = 0 ∨ p = 25
  · rw [told_edge _ _ _ e, if_neg (by omega)]
    rcases e with rfl | rfl
    · exact h0.symm
    · exact h25.symm
  · have hp' := aw_lt t p (by omega)
    rw [told_at _ _ _ (by omega), hit_at _ hSl _ _ _ (by omega) (by omega) (by omega), hit_at _ hSl _ _ _ (by omega) (by omega) (by omega)]
    by_cases e2 : p = q
    · subst e2
      rw [if_pos rfl, if_pos rfl, if_neg (by omega), if_neg (by omega), if_pos rfl, seen_men P W B t p (by omega), hitP]
      have hsg := sg_ma P t p
      by_cases e3 : ma P t p = -1
      · rw [if_pos e3, e3]; simp [up]
      · have : up (ma P t p) = ma P t p := by unfold up; split <;> omega
        rw [if_neg e3, this, show ma P t p + 1 - 0 = ma P t p + 1 by omega, sg_add, hsg]
    · have n2 : aw t p ≠ aw t q := fun h => e2 (aw_inj t p q (by omega) (by omega) h)
      rw [if_neg n2, if_neg (by omega), if_neg (by omega), if_neg (by omega), if_neg (by omega), if_neg (by omega), if_neg (by omega), if_neg (by omega), if_neg e2, seen_men P W B t p (by omega), seen_oth P W B t p (by omega), up_sub, sg_ma]

/-- What a board's step is, on the points: the points and both bars behind it. -/
def stR (P : List Int) (W B : Int) (t f p : Nat) : Option (List Int × Int × Int) :=
  (stp (seenL P W B t) (if f = 0 then 25 else aw t f) p).map fun S => (toldP S t, ownB (S.getD 25 0) (S.getD 26 0) t, othB (S.getD 25 0) (S.getD 26 0) t)

theorem own_oth (W B : Int) (t : Nat) : ownB (ownB W B t) (othB W B t) t = W ∧ othB (ownB W B t) (othB W B t) t = B := by unfold ownB othB; split <;> simp

/-- No man may move so: the first three reasons. -/
theorem stR_bar (P : List Int) (W B : Int) (t f p : Nat) (hf : f ≤ 24) (h : (0 < ownB W B t ∧ f ≠ 0) ∨ (ownB W B t = 0 ∧ f = 0) ∨ (0 < f ∧ ma P t f < 1)) : stR P W B t f p = none := by
  unfold stR
  rw [stp, if_pos]
  · rfl
  rcases h with ⟨h1, h2⟩ | ⟨h1, rfl⟩ | ⟨h1, h2⟩
  · right
    rw [if_neg h2, seen_bar]
    have := aw_lt t f (by omega)
    exact ⟨by omega, h1⟩
  · left
    rw [if_pos rfl, seen_bar, h1]
  · left
    rw [if_neg (by omega), seen_men P W B t f (by omega)]
    unfold up; split <;> omega

/-- Does a man hinder going off? -/
def badB (P : List Int) (t far p q : Nat) : Bool := decide (0 < ma P t q ∧ (6 < aw t q ∨ (far < p ∧ far < aw t q)))

theorem stR_off (P : List Int) (W B : Int) (t f p : Nat) (hl : P.length = 26) (h0 : P.getD 0 0 = 0) (h25 : P.getD 25 0 = 0) (hb : ownB W B t = 0) (hf : 1 ≤ f ∧ f ≤ 24) (hm : 1 ≤ ma P t f) (hfp : aw t f ≤ p) (hp : p ≤ 6) :
    ((∃ q, (1 ≤ q ∧ q ≤ 24) ∧ badB P t (aw t f) p q = true) → stR P W B t f p = none) ∧ ((¬ ∃ q, (1 ≤ q ∧ q ≤ 24) ∧ badB P t (aw t f) p q = true) → stR P W B t f p = some (P.set f (P.getD f 0 - sg t 1), W, B)) := by
  have hSl := seenL_length P W B t
  have hf' := aw_lt t f hf
  have hup : up (ma P t f) = ma P t f := by unfold up; split <;> omega
  have hhome : homeB (seenL P W B t) = true ↔ ∀ q, 1 ≤ q ∧ q ≤ 24 → 0 < ma P t q → aw t q ≤ 6 := by
    rw [homeB_iff]
    constructor
    · intro h q hq hm'
      by_cases h7 : 7 ≤ aw t q
      · have hq' := aw_lt t q hq
        have := h (aw t q) h7 (by omega)
        rw [seen_men P W B t q hq] at this
        unfold up at this; split at this <;> omega
      · omega
    · intro h i h7 h26
      by_cases e : i = 25
      · subst e; rw [seen_bar, hb]
      · have hi := aw_aw t i (by omega)
        have hi' := aw_lt t i (by omega)
        rw [← hi, seen_men P W B t (aw t i) (by omega)]
        have := h (aw t i) (by omega)
        rw [hi] at this
        unfold up; split <;> omega
  have hbeh : behB (seenL P W B t) (aw t f) = true ↔ ∃ q, (1 ≤ q ∧ q ≤ 24) ∧ 0 < ma P t q ∧ aw t f < aw t q := by
    rw [behB_iff]
    constructor
    · rintro ⟨i, h1, h2, h3⟩
      by_cases e : i = 25
      · subst e; rw [seen_bar, hb] at h3; omega
      · have hi := aw_aw t i (by omega)
        have hi' := aw_lt t i (by omega)
        rw [← hi, seen_men P W B t (aw t i) (by omega)] at h3
        refine ⟨aw t i, hi', ?_, by omega⟩
        unfold up at h3; split at h3 <;> omega
    · rintro ⟨q, h1, h2, h3⟩
      have hq' := aw_lt t q h1
      refine ⟨aw t q, by omega, h3, ?_⟩
      rw [seen_men P W B t q h1]
      unfold up; split <;> omega
  unfold stR
  rw [if_neg (show ¬ f = 0 by omega), stp, if_neg, if_pos hfp]
  · refine ⟨fun hx => ?_, fun hx => ?_⟩
    · rw [if_pos]
      · rfl
      obtain ⟨q, h1, h2⟩ := hx
      simp only [badB, decide_eq_true_eq] at h2
      obtain ⟨h2, h3 | h3⟩ := h2
      · left
        rw [← Bool.not_eq_true, hhome]
        intro h
        have := h q h1 h2
        omega
      · right
        exact ⟨h3.1, hbeh.2 ⟨q, h1, h2, h3.2⟩⟩
    · rw [if_neg]
      · have e1 : ((seenL P W B t).set (aw t f) ((seenL P W B t).getD (aw t f) 0 - 1)).getD 25 0 = ownB W B t := by rw [getD_set _ _ _ _ (by omega), if_neg (by omega), seen_bar]
        have e2 : ((seenL P W B t).set (aw t f) ((seenL P W B t).getD (aw t f) 0 - 1)).getD 26 0 = othB W B t := by rw [getD_set _ _ _ _ (by omega), if_neg (by omega), seen_oba]
        rw [Option.map_some, told_off P W B t f hl h0 h25 hf, e1, e2, (own_oth W B t).1, (own_oth W B t).2]
      · rintro (h | ⟨h, h'⟩)
        · rw [← Bool.not_eq_true, hhome] at h
          apply h
          intro q h1 h2
          by_cases h3 : aw t q ≤ 6
          · exact h3
          · exact absurd ⟨q, h1, by simp only [badB, decide_eq_true_eq]; exact ⟨h2, Or.inl (by omega)⟩⟩ hx
        · obtain ⟨q, h1, h2, h3⟩ := hbeh.1 h'
          exact hx ⟨q, h1, by simp only [badB, decide_eq_true_eq]; exact ⟨h2, Or.inr ⟨h, h3⟩⟩⟩
  · rw [seen_men P W B t f hf, hup, seen_bar, hb]
    omega

/-- Both bars behind a step. -/
def barO (P : List Int) (W B : Int) (t q : Nat) : Int := othB W B t + (if ma P t q = -1 then 1 else 0)

theorem stR_hit (P : List Int) (W B : Int) (t f p q : Nat) (hl : P.length = 26) (h0 : P.getD 0 0 = 0) (h25 : P.getD 25 0 = 0) (hb : ownB W B t = 0) (hf : 1 ≤ f ∧ f ≤ 24) (hm : 1 ≤ ma P t f) (hq : 1 ≤ q ∧ q ≤ 24) (hqf : aw t f = aw t q + p) (hp : 1 ≤ p) :
    stR P W B t f p = if ma P t q < -1 then none else some ((P.set q (hitP P t q)).set f (P.getD f 0 - sg t 1), ownB (ownB W B t) (barO P W B t q) t, othB (ownB W B t) (barO P W B t q) t) := by
  have hSl := seenL_length P W B t
  have hf' := aw_lt t f hf
  have hq' := aw_lt t q hq
  have hup : up (ma P t f) = ma P t f := by unfold up; split <;> omega
  unfold stR
  rw [if_neg (show ¬ f = 0 by omega), stp, if_neg, if_neg (by omega), show aw t f - p = aw t q by omega, seen_oth P W B t q hq]
  · by_cases hm' : ma P t q < -1
    · rw [if_pos hm', if_pos (by unfold up; split <;> omega)]
      rfl
    · rw [if_neg hm', if_neg (by unfold up; split <;> omega)]
      have e1 : (hitS (seenL P W B t) (aw t f) (aw t q)).getD 25 0 = ownB W B t := by rw [hit_at _ hSl _ _ _ (by omega) (by omega) (by omega), if_neg (by omega), if_neg (by omega), if_neg (by omega), if_neg (by omega), seen_bar]
      have e2 : (hitS (seenL P W B t) (aw t f) (aw t q)).getD 26 0 = barO P W B t q := by
        rw [hit_at _ hSl _ _ _ (by omega) (by omega) (by omega), if_neg (by omega), if_neg (by omega), if_neg (by omega), if_pos rfl, seen_oba, seen_oth P W B t q hq, barO]
        congr 1
        unfold up; split <;> split <;> omega
      rw [Option.map_some, told_hit P W B t f q hl h0 h25 hf hq (by omega) hm', e1, e2]
  · rw [seen_men P W B t f hf, hup, seen_bar, hb]
    omega

theorem stR_in (P : List Int) (W B : Int) (t p q : Nat) (hl : P.length = 26) (h0 : P.getD 0 0 = 0) (h25 : P.getD 25 0 = 0) (hb : 0 < ownB W B t) (hq : 1 ≤ q ∧ q ≤ 24) (hqf : 25 = aw t q + p) (hp : 1 ≤ p) :
    stR P W B t 0 p = if ma P t q < -1 then none else some (P.set q (hitP P t q), ownB (ownB W B t - 1) (barO P W B t q) t, othB (ownB W B t - 1) (barO P W B t q) t) := by
  have hSl := seenL_length P W B t
  have hq' := aw_lt t q hq
  unfold stR
  rw [if_pos rfl, stp, if_neg, if_neg (by omega), show 25 - p = aw t q by omega, seen_oth P W B t q hq]
  · by_cases hm' : ma P t q < -1
    · rw [if_pos hm', if_pos (by unfold up; split <;> omega)]
      rfl
    · rw [if_neg hm', if_neg (by unfold up; split <;> omega)]
      have e1 : (hitS (seenL P W B t) 25 (aw t q)).getD 25 0 = ownB W B t - 1 := by rw [hit_at _ hSl _ _ _ (by omega) (by omega) (by omega), if_neg (by omega), if_pos rfl, seen_bar]
      have e2 : (hitS (seenL P W B t) 25 (aw t q)).getD 26 0 = barO P W B t q := by
        rw [hit_at _ hSl _ _ _ (by omega) (by omega) (by omega), if_neg (by omega), if_neg (by omega), if_neg (by omega), if_pos rfl, seen_oba, seen_oth P W B t q hq, barO]
        congr 1
        unfold up; split <;> split <;> omega
      rw [Option.map_some, told_in P W B t q hl h0 h25 hq hm', e1, e2]
  · rw [seen_bar]
    omega

end Go.Proofs.Ytmboikpcbkiepaa
