/-
  The closure of Moves orders boards as the document does. No conditions beyond those that each theorem bears.
-/
import Derived.Test.YtmboikpcbkiepaaClo
import Derived.Test.YtmboikpcbkiepaaSrt
namespace Go.Proofs.Ytmboikpcbkiepaa

theorem lexL_app : ∀ (P Q A B : List Int), P.length = Q.length → lexL (P ++ A) (Q ++ B) = if P = Q then lexL A B else lexL P Q
  | [], [], A, B, _ => by simp
  | [], _ :: _, _, _, h => by simp at h
  | _ :: _, [], _, _, h => by simp at h
  | x :: P, y :: Q, A, B, h => by
    have ih := lexL_app P Q A B (by simpa using h)
    rw [List.cons_append, List.cons_append, lexL, lexL]
    by_cases e : x = y
    · rw [if_pos e, if_pos e, ih]
      by_cases e2 : P = Q
      · rw [if_pos e2, if_pos (by rw [e, e2])]
      · rw [if_neg e2, if_neg (by intro hh; cases hh; exact e2 rfl)]
    · rw [if_neg e, if_neg e, if_neg (by intro hh; cases hh; exact e rfl)]

theorem cL_neg {P Q : List Int} (h : P ≠ Q) : cL P Q ≠ 0 ∧ (cL P Q < 0 ↔ lexL P Q = true) := by
  unfold cL
  by_cases e : lexL P Q = true
  · rw [if_pos e]
    exact ⟨by omega, fun _ => e, fun _ => by omega⟩
  · rw [if_neg e]
    rcases lexL_tri P Q with h1 | h1 | h1
    · exact absurd h1 e
    · exact absurd h1 h
    · rw [if_pos h1]
      exact ⟨by omega, fun hh => by omega, fun hh => absurd hh e⟩

theorem cI_neg (x y : Int) : cI x y < 0 ↔ x < y := by
  unfold cI
  split
  · constructor <;> intro h <;> omega
  · split
    · constructor <;> intro h <;> omega
    · constructor <;> intro h <;> omega

theorem cB_less {x y : Bo} (hx : x.P.length = 26) (hy : y.P.length = 26) : decide (cB x y < 0) = lessO x y := by
  unfold cB lessO kyB or3
  rw [lexL_app _ _ _ _ (by omega)]
  by_cases hP : x.P = y.P
  · rw [if_pos hP, hP, cL_self, if_neg (by omega)]
    rw [lexL]
    by_cases hW : x.W = y.W
    · rw [if_pos hW, cI_zero.2 hW, if_neg (by omega), lexL]
      by_cases hB : x.B = y.B
      · rw [if_pos hB, cI_zero.2 hB]
        rfl
      · rw [if_neg hB, Bool.eq_iff_iff, decide_eq_true_iff, decide_eq_true_iff, cI_neg]
    · rw [if_neg hW, if_pos (fun h => hW (cI_zero.1 h)), Bool.eq_iff_iff, decide_eq_true_iff, decide_eq_true_iff, cI_neg]
  · obtain ⟨h1, h2⟩ := cL_neg hP
    rw [if_neg hP, if_pos h1, Bool.eq_iff_iff, decide_eq_true_iff, h2]

end Go.Proofs.Ytmboikpcbkiepaa
