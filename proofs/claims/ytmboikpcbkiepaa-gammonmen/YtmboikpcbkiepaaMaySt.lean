/-
  A board that comes of a step may be. No conditions beyond those that each theorem bears.
-/
import Derived.Test.YtmboikpcbkiepaaStM
import Derived.Test.YtmboikpcbkiepaaGMay
namespace Go.Proofs.Ytmboikpcbkiepaa

theorem sum_st (f : Int → Int) : ∀ (P : List Int) (i : Nat) (x : Int), i < P.length → ((P.set i x).map f).sum = (P.map f).sum - f (P.getD i 0) + f x
  | [], i, x, h => by simp at h
  | y :: P, 0, x, _ => by simp only [List.set_cons_zero, List.map_cons, List.sum_cons, List.getD_cons_zero]; omega
  | y :: P, i + 1, x, h => by
    have ih := sum_st f P i x (by simpa using h)
    simp only [List.set_cons_succ, List.map_cons, List.sum_cons, List.getD_cons_succ]
    omega

theorem up_sp (z : Int) : (0 ≤ z ∧ up z = z) ∨ (z < 0 ∧ up z = 0) := by
  unfold up
  split <;> omega

theorem gd_ne {P : List Int} {i j : Nat} {x : Int} (h : i ≠ j) : (P.set i x).getD j 0 = P.getD j 0 := by simp [List.getD, h]

theorem mayP_set {P : List Int} {W B T W' B' : Int} (h : mayP P W B T) {i : Nat} (hi : 1 ≤ i ∧ i ≤ 24) {x : Int} (hW : 0 ≤ W') (hB : 0 ≤ B') (h1 : W' + up x ≤ W + up (P.getD i 0)) (h2 : B' + up (-x) ≤ B + up (-(P.getD i 0))) : mayP (P.set i x) W' B' T := by
  obtain ⟨a1, a2, a3, a4, a5, a6, a7, a8⟩ := h
  have s1 := sum_st up P i x (by omega)
  have s2 := sum_st (fun z => up (-z)) P i x (by omega)
  simp only [ws, bs, List.sum_cons] at a7 a8
  refine ⟨by simp [a1], by rw [gd_ne (by omega)]; exact a2, by rw [gd_ne (by omega)]; exact a3, hW, hB, a6, ?_, ?_⟩
  · simp only [ws, List.sum_cons]; rw [s1]; omega
  · simp only [bs, List.sum_cons]; rw [s2]; omega

theorem may_step {P : List Int} {W B : Int} {t f p : Nat} (ht : t ≤ 1) (hf : f ≤ 24) (hp : 1 ≤ p ∧ p ≤ 6) (h : mayP P W B t) {Q : List Int} {W' B' : Int} (hs : stR P W B t f p = some (Q, W', B')) : mayP Q W' B' t := by
  have hl := h.1
  have h0 := h.2.1
  have h25 := h.2.2.1
  have hW := h.W15.1
  have hB := h.B15.1
  by_cases hf0 : f = 0
  · subst hf0
    by_cases hb : 0 < ownB W B t
    · obtain ⟨q, hq, hqf⟩ : ∃ q, (1 ≤ q ∧ q ≤ 24) ∧ 25 = aw t q + p := by
        rcases (show t = 0 ∨ t = 1 by omega) with rfl | rfl
        · exact ⟨25 - p, by omega, by simp [aw]; omega⟩
        · exact ⟨p, by omega, by simp [aw]; omega⟩
      rw [stR_in P W B t p q hl h0 h25 hb hq hqf hp.1] at hs
      split at hs
      · cases hs
      · rename_i hm
        simp only [Option.some.injEq, Prod.mk.injEq] at hs
        obtain ⟨rfl, rfl, rfl⟩ := hs
        rcases (show t = 0 ∨ t = 1 by omega) with rfl | rfl
        · simp only [ownB, othB, hitP, barO, ma, sg, if_true] at hb hm ⊢
          by_cases e : P.getD q 0 = -1
          · rw [if_pos e, if_pos e]
            refine mayP_set h hq (by omega) (by omega) ?_ ?_ <;> rw [e] <;> simp [up] <;> omega
          · rw [if_neg e, if_neg e]
            have u1 := up_sp (P.getD q 0)
            have u2 := up_sp (P.getD q 0 + 1)
            have u3 := up_sp (-(P.getD q 0))
            have u4 := up_sp (-(P.getD q 0 + 1))
            exact mayP_set h hq (by omega) (by omega) (by omega) (by omega)
        · simp only [ownB, othB, hitP, barO, ma, sg, show ¬ (1 = 0) by omega, if_false] at hb hm ⊢
          by_cases e : -P.getD q 0 = -1
          · rw [if_pos e, if_pos e]
            have e' : P.getD q 0 = 1 := by omega
            refine mayP_set h hq (by omega) (by omega) ?_ ?_ <;> rw [e'] <;> simp [up] <;> omega
          · rw [if_neg e, if_neg e]
            have u1 := up_sp (P.getD q 0)
            have u2 := up_sp (P.getD q 0 + -1)
            have u3 := up_sp (-(P.getD q 0))
            have u4 := up_sp (-(P.getD q 0 + -1))
            exact mayP_set h hq (by omega) (by omega) (by omega) (by omega)
    · have hb0 : ownB W B t = 0 := by
        have : 0 ≤ ownB W B t := by unfold ownB; split <;> omega
        omega
      rw [stR_bar P W B t 0 p (by omega) (Or.inr (Or.inl ⟨hb0, rfl⟩))] at hs
      cases hs
  · by_cases hb : 0 < ownB W B t
    · rw [stR_bar P W B t f p hf (Or.inl ⟨hb, hf0⟩)] at hs
      cases hs
    · have hb0 : ownB W B t = 0 := by
        have : 0 ≤ ownB W B t := by unfold ownB; split <;> omega
        omega
      by_cases hm : ma P t f < 1
      · rw [stR_bar P W B t f p hf (Or.inr (Or.inr ⟨by omega, hm⟩))] at hs
        cases hs
      · by_cases hfp : aw t f ≤ p
        · obtain ⟨o1, o2⟩ := stR_off P W B t f p hl h0 h25 hb0 (by omega) (by omega) hfp hp.2
          by_cases ex : ∃ q, (1 ≤ q ∧ q ≤ 24) ∧ badB P t (aw t f) p q = true
          · rw [o1 ex] at hs; cases hs
          · rw [o2 ex] at hs
            simp only [Option.some.injEq, Prod.mk.injEq] at hs
            obtain ⟨rfl, rfl, rfl⟩ := hs
            clear ex o1 o2
            rcases (show t = 0 ∨ t = 1 by omega) with rfl | rfl
            · simp only [ma, sg, if_true] at hm ⊢
              have u1 := up_sp (P.getD f 0)
              have u2 := up_sp (P.getD f 0 - 1)
              have u3 := up_sp (-(P.getD f 0))
              have u4 := up_sp (-(P.getD f 0 - 1))
              exact mayP_set h (by omega) (by omega) (by omega) (by omega) (by omega)
            · simp only [ma, sg, show ¬ (1 = 0) by omega, if_false] at hm ⊢
              have u1 := up_sp (P.getD f 0)
              have u2 := up_sp (P.getD f 0 - -1)
              have u3 := up_sp (-(P.getD f 0))
              have u4 := up_sp (-(P.getD f 0 - -1))
              exact mayP_set h (by omega) (by omega) (by omega) (by omega) (by omega)
        · obtain ⟨q, hq, hqf⟩ : ∃ q, (1 ≤ q ∧ q ≤ 24) ∧ aw t f = aw t q + p := by
            rcases (show t = 0 ∨ t = 1 by omega) with rfl | rfl
            · simp only [aw, if_true] at hfp
              exact ⟨f - p, by omega, by simp only [aw, if_true]; omega⟩
            · simp only [aw, show ¬ (1 = 0) by omega, if_false] at hfp
              exact ⟨f + p, by omega, by simp only [aw, show ¬ (1 = 0) by omega, if_false]; omega⟩
          have hqn : q ≠ f := by intro e; rw [e] at hqf; omega
          rw [stR_hit P W B t f p q hl h0 h25 hb0 (by omega) (by omega) hq hqf hp.1] at hs
          split at hs
          · cases hs
          · rename_i hmq
            simp only [Option.some.injEq, Prod.mk.injEq] at hs
            obtain ⟨rfl, rfl, rfl⟩ := hs
            rw [List.set_comm _ _ hqn]
            rcases (show t = 0 ∨ t = 1 by omega) with rfl | rfl
            · simp only [ownB, othB, hitP, barO, ma, sg, if_true] at hb0 hm hmq ⊢
              have u1 := up_sp (P.getD f 0)
              have u2 := up_sp (P.getD f 0 - 1)
              have u3 := up_sp (-(P.getD f 0))
              have u4 := up_sp (-(P.getD f 0 - 1))
              obtain ⟨a1, a2, a3, a4, a5, a6, a7, a8⟩ := h
              have s1 := sum_st up (P.set f (P.getD f 0 - 1)) q ((if P.getD q 0 = -1 then 0 else P.getD q 0) + 1) (by simp; omega)
              have s2 := sum_st (fun z => up (-z)) (P.set f (P.getD f 0 - 1)) q ((if P.getD q 0 = -1 then 0 else P.getD q 0) + 1) (by simp; omega)
              rw [sum_st up P f _ (by omega), gd_ne (Ne.symm hqn)] at s1
              rw [sum_st (fun z => up (-z)) P f _ (by omega), gd_ne (Ne.symm hqn)] at s2
              simp only [ws, bs, List.sum_cons] at a7 a8
              refine ⟨by simp [a1], by rw [gd_ne (by omega), gd_ne (by omega)]; exact a2, by rw [gd_ne (by omega), gd_ne (by omega)]; exact a3, by omega, by split <;> omega, a6, ?_, ?_⟩
              · simp only [ws, List.sum_cons]
                rw [s1]
                by_cases e : P.getD q 0 = -1
                · rw [if_pos e, e]; have z1 : up (-1) = 0 := rfl
                  have z2 : up (0 + 1) = 1 := rfl
                  have z3 : up (-(-1)) = 1 := rfl
                  have z4 : up (-(0 + 1)) = 0 := rfl
                  have z5 : up 1 = 1 := rfl
                  have z6 : up (0 + -1) = 0 := rfl
                  have z7 : up (-(0 + -1)) = 1 := rfl
                  omega
                · rw [if_neg e]
                  have v1 := up_sp (P.getD q 0)
                  have v2 := up_sp (P.getD q 0 + 1)
                  omega
              · simp only [bs, List.sum_cons]
                rw [s2]
                by_cases e : P.getD q 0 = -1
                · rw [if_pos e, if_pos e, e]; have z1 : up (-1) = 0 := rfl
                  have z2 : up (0 + 1) = 1 := rfl
                  have z3 : up (-(-1)) = 1 := rfl
                  have z4 : up (-(0 + 1)) = 0 := rfl
                  have z5 : up 1 = 1 := rfl
                  have z6 : up (0 + -1) = 0 := rfl
                  have z7 : up (-(0 + -1)) = 1 := rfl
                  omega
                · rw [if_neg e, if_neg e]
                  have v1 := up_sp (-(P.getD q 0))
                  have v2 := up_sp (-(P.getD q 0 + 1))
                  omega
            · simp only [ownB, othB, hitP, barO, ma, sg, show ¬ (1 = 0) by omega, if_false] at hb0 hm hmq ⊢
              have u1 := up_sp (P.getD f 0)
              have u2 := up_sp (P.getD f 0 - -1)
              have u3 := up_sp (-(P.getD f 0))
              have u4 := up_sp (-(P.getD f 0 - -1))
              obtain ⟨a1, a2, a3, a4, a5, a6, a7, a8⟩ := h
              have s1 := sum_st up (P.set f (P.getD f 0 - -1)) q ((if -P.getD q 0 = -1 then 0 else P.getD q 0) + -1) (by simp; omega)
              have s2 := sum_st (fun z => up (-z)) (P.set f (P.getD f 0 - -1)) q ((if -P.getD q 0 = -1 then 0 else P.getD q 0) + -1) (by simp; omega)
              rw [sum_st up P f _ (by omega), gd_ne (Ne.symm hqn)] at s1
              rw [sum_st (fun z => up (-z)) P f _ (by omega), gd_ne (Ne.symm hqn)] at s2
              simp only [ws, bs, List.sum_cons] at a7 a8
              refine ⟨by simp [a1], by rw [gd_ne (by omega), gd_ne (by omega)]; exact a2, by rw [gd_ne (by omega), gd_ne (by omega)]; exact a3, by split <;> omega, by omega, a6, ?_, ?_⟩
              · simp only [ws, List.sum_cons]
                rw [s1]
                by_cases e : -P.getD q 0 = -1
                · have e' : P.getD q 0 = 1 := by omega
                  rw [if_pos e, if_pos e, e']; have z1 : up (-1) = 0 := rfl
                  have z2 : up (0 + 1) = 1 := rfl
                  have z3 : up (-(-1)) = 1 := rfl
                  have z4 : up (-(0 + 1)) = 0 := rfl
                  have z5 : up 1 = 1 := rfl
                  have z6 : up (0 + -1) = 0 := rfl
                  have z7 : up (-(0 + -1)) = 1 := rfl
                  omega
                · rw [if_neg e, if_neg e]
                  have v1 := up_sp (P.getD q 0)
                  have v2 := up_sp (P.getD q 0 + -1)
                  omega
              · simp only [bs, List.sum_cons]
                rw [s2]
                by_cases e : -P.getD q 0 = -1
                · have e' : P.getD q 0 = 1 := by omega
                  rw [if_pos e, e']; have z1 : up (-1) = 0 := rfl
                  have z2 : up (0 + 1) = 1 := rfl
                  have z3 : up (-(-1)) = 1 := rfl
                  have z4 : up (-(0 + 1)) = 0 := rfl
                  have z5 : up 1 = 1 := rfl
                  have z6 : up (0 + -1) = 0 := rfl
                  have z7 : up (-(0 + -1)) = 1 := rfl
                  omega
                · rw [if_neg e]
                  have v1 := up_sp (-(P.getD q 0))
                  have v2 := up_sp (-(P.getD q 0 + -1))
                  omega

end Go.Proofs.Ytmboikpcbkiepaa
