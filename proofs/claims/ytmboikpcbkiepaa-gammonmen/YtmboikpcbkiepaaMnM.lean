/-
  Men along a step: the others' stay, and of one's own one at most goes. No conditions beyond those that each theorem bears.
-/
import Derived.Test.YtmboikpcbkiepaaMe
namespace Go.Proofs.Ytmboikpcbkiepaa

/-- One's own men, and the others'. -/
def ownS (s : List Int) : Int := (s.take 26).sum
def othS (s : List Int) : Int := (s.drop 26).sum

theorem sum_put (l : List Int) (i : Nat) (x : Int) (h : i < l.length) : (l.set i x).sum = l.sum - l.getD i 0 + x := by
  have := sum_st id l i x h
  simpa using this

theorem own_put (s : List Int) (hl : s.length = 52) (i : Nat) (x : Int) (hi : i < 26) : ownS (s.set i x) = ownS s - s.getD i 0 + x := by
  unfold ownS
  rw [List.take_set, sum_put _ _ _ (by simp; omega)]
  have : (s.take 26).getD i 0 = s.getD i 0 := by simp [List.getD, hi]
  rw [this]

theorem own_put_far (s : List Int) (i : Nat) (x : Int) (hi : 26 ≤ i) : ownS (s.set i x) = ownS s := by
  unfold ownS
  rw [List.take_set, List.set_eq_of_length_le (by simp; omega)]

theorem oth_put (s : List Int) (hl : s.length = 52) (i : Nat) (x : Int) (hi : i < 26) : othS (s.set (26 + i) x) = othS s - s.getD (26 + i) 0 + x := by
  unfold othS
  rw [List.drop_set, if_neg (by omega), sum_put _ _ _ (by simp; omega)]
  have : (s.drop 26).getD (26 + i - 26) 0 = s.getD (26 + i) 0 := by simp [List.getD, List.getElem?_drop]
  rw [this]

theorem oth_put_near (s : List Int) (i : Nat) (x : Int) (hi : i < 26) : othS (s.set i x) = othS s := by
  unfold othS
  rw [List.drop_set, if_pos hi]

theorem stp_sums {s s' : List Int} {f p : Nat} (hl : s.length = 52) (hf : 1 ≤ f ∧ f ≤ 25) (hp : 1 ≤ p) (h : stp s f p = some s') : othS s' = othS s ∧ ownS s - 1 ≤ ownS s' ∧ ownS s' ≤ ownS s := by
  unfold stp at h
  split at h
  · cases h
  · split at h
    · split at h
      · cases h
      · simp only [Option.some.injEq] at h
        subst h
        rw [oth_put_near _ _ _ (by omega), own_put _ hl _ _ (by omega)]
        exact ⟨rfl, by omega, by omega⟩
    · split at h
      · cases h
      · simp only [Option.some.injEq] at h
        subst h
        obtain ⟨t, ht⟩ : ∃ t, f - p = t := ⟨_, rfl⟩
        rw [ht]
        have ht1 : t < 25 ∧ t < f ∧ 0 < t := by omega
        unfold hitS
        have l1 : (s.set 26 (s.getD 26 0 + s.getD (26 + t) 0)).length = 52 := by simp [hl]
        have l2 : ((s.set 26 (s.getD 26 0 + s.getD (26 + t) 0)).set (26 + t) 0).length = 52 := by simp [hl]
        have l3 : (((s.set 26 (s.getD 26 0 + s.getD (26 + t) 0)).set (26 + t) 0).set f (s.getD f 0 - 1)).length = 52 := by simp [hl]
        rw [oth_put_near _ t _ (by omega), oth_put_near _ f _ (by omega), oth_put _ l1 t _ (by omega), gd_ne (show (26 : Nat) ≠ 26 + t by omega)]
        have e0 := oth_put s hl 0 (s.getD 26 0 + s.getD (26 + t) 0) (by omega)
        rw [Nat.add_zero] at e0
        rw [e0, own_put _ l3 t _ (by omega), own_put _ l2 f _ (by omega), own_put_far _ (26 + t) _ (by omega), own_put_far _ 26 _ (by omega)]
        rw [gd_ne (show f ≠ t by omega), gd_ne (show (26 : Nat) + t ≠ t by omega), gd_ne (show (26 : Nat) ≠ t by omega), gd_ne (show (26 : Nat) + t ≠ f by omega), gd_ne (show (26 : Nat) ≠ f by omega)]
        exact ⟨by omega, by omega, by omega⟩

/-- Through one step. -/
theorem aft_sums {X : List Int → Prop} {p : Nat} (hp : 1 ≤ p ∧ p ≤ 6) {a b d : Int} (hX : ∀ s, X s → Pr s ∧ othS s = a ∧ b - d ≤ ownS s ∧ ownS s ≤ b) : ∀ s, aft X p s → Pr s ∧ othS s = a ∧ b - (d + 1) ≤ ownS s ∧ ownS s ≤ b := by
  rintro s ⟨z, f, hz, h1, h2, h3⟩
  obtain ⟨q0, q1, q2, q3⟩ := hX z hz
  obtain ⟨r1, r2, r3⟩ := stp_sums q0.len ⟨h1, h2⟩ hp.1 h3
  exact ⟨stp_pr q0 ⟨h1, h2⟩ hp h3, by omega, by omega, by omega⟩

theorem rep_sums {p : Nat} (hp : 1 ≤ p ∧ p ≤ 6) {a b : Int} : ∀ (k : Nat) (d : Int) (X : List Int → Prop), (∀ s, X s → Pr s ∧ othS s = a ∧ b - d ≤ ownS s ∧ ownS s ≤ b) → ∀ s, rep p k X s → Pr s ∧ othS s = a ∧ b - (d + k) ≤ ownS s ∧ ownS s ≤ b
  | 0, d, X, hX, s, h => by
    obtain ⟨q0, q1, q2, q3⟩ := hX s h
    exact ⟨q0, q1, by simpa using q2, q3⟩
  | k + 1, d, X, hX, s, h => by
    rcases h with ⟨_, h⟩ | ⟨_, h⟩
    · obtain ⟨q0, q1, q2, q3⟩ := rep_sums hp k (d + 1) _ (aft_sums hp hX) s h
      exact ⟨q0, q1, by omega, q3⟩
    · obtain ⟨q0, q1, q2, q3⟩ := hX s h
      exact ⟨q0, q1, by omega, q3⟩

/-- What comes of a throw: the others' men are as many, and of one's own four at most have gone. -/
theorem ends_sums {s : List Int} {x y : Nat} (hx : 1 ≤ x ∧ x ≤ 6) (hy : 1 ≤ y ∧ y ≤ 6) (hs : Pr s) : ∀ z, endsX s x y z → Pr z ∧ othS z = othS s ∧ ownS s - 4 ≤ ownS z ∧ ownS z ≤ ownS s := by
  have h0 : ∀ u, u = s → Pr u ∧ othS u = othS s ∧ ownS s - 0 ≤ ownS u ∧ ownS u ≤ ownS s := by
    rintro u rfl
    exact ⟨hs, rfl, by omega, by omega⟩
  intro z hz
  unfold endsX at hz
  split at hz
  · obtain ⟨q0, q1, q2, q3⟩ := rep_sums hx 4 0 _ h0 z hz
    exact ⟨q0, q1, by omega, q3⟩
  · have hg : 1 ≤ max x y ∧ max x y ≤ 6 := by omega
    have hl : 1 ≤ min x y ∧ min x y ≤ 6 := by omega
    have a1 := aft_sums hg h0
    have a2 := aft_sums hl h0
    have fin : ∀ {d : Int}, d ≤ 4 → (Pr z ∧ othS z = othS s ∧ ownS s - d ≤ ownS z ∧ ownS z ≤ ownS s) → Pr z ∧ othS z = othS s ∧ ownS s - 4 ≤ ownS z ∧ ownS z ≤ ownS s := fun hd ⟨q0, q1, q2, q3⟩ => ⟨q0, q1, by omega, q3⟩
    rcases hz with ⟨_, hz | hz⟩ | ⟨_, _, hz⟩ | ⟨_, _, _, hz⟩ | ⟨_, _, _, hz⟩
    · exact fin (by omega) (aft_sums hl a1 z hz)
    · exact fin (by omega) (aft_sums hg a2 z hz)
    · exact fin (by omega) (a1 z hz)
    · exact fin (by omega) (a2 z hz)
    · exact fin (by omega) (h0 z hz)

end Go.Proofs.Ytmboikpcbkiepaa
