/-
  Sets of cards as bits of a number: the lowest bit, its going, the cards of a player. No conditions beyond those that each theorem bears.
-/
namespace Go.Proofs.YtiihnlpoagnkhaaDoor

/-- A number that is not 0 has a lowest bit. -/
theorem low_split : ∀ (m : Nat), m ≠ 0 → ∃ k q, m = 2 ^ k * (2 * q + 1) := by
  intro m
  induction m using Nat.strongRecOn with
  | ind m ih =>
    intro h
    by_cases e : m % 2 = 1
    · exact ⟨0, m / 2, by rw [Nat.pow_zero]; omega⟩
    · obtain ⟨k, q, hk⟩ := ih (m / 2) (by omega) (by omega)
      refine ⟨k + 1, q, ?_⟩
      rw [Nat.pow_succ, Nat.mul_comm (2 ^ k) 2, Nat.mul_assoc, ← hk]
      omega

theorem bit_odd (q i : Nat) : (2 * q + 1).testBit i = (if i = 0 then true else (2 * q).testBit i) := by
  cases i with
  | zero => simp [Nat.testBit_zero]
  | succ i =>
    rw [if_neg (by omega), Nat.testBit_succ, Nat.testBit_succ]
    congr 1
    omega

theorem bit_low (k q j : Nat) : (2 ^ k * (2 * q + 1)).testBit j = (if j < k then false else if j = k then true else (2 * q).testBit (j - k)) := by
  have h := Nat.testBit_two_pow_mul_add (2 * q + 1) (b := 0) (i := k) (Nat.two_pow_pos k) j
  rw [Nat.add_zero] at h
  rw [h]
  by_cases e : j < k
  · simp [e]
  · rw [if_neg e, if_neg e, bit_odd]
    by_cases e2 : j = k
    · rw [if_pos (by omega), if_pos e2]
    · rw [if_neg (by omega), if_neg e2]

theorem bit_pred (k q j : Nat) : (2 ^ k * (2 * q + 1) - 1).testBit j = (if j < k then true else if j = k then false else (2 * q).testBit (j - k)) := by
  have hp := Nat.two_pow_pos k
  have e : 2 ^ k * (2 * q + 1) - 1 = 2 ^ k * (2 * q) + (2 ^ k - 1) := by
    rw [Nat.mul_add, Nat.mul_one]; omega
  rw [e, Nat.testBit_two_pow_mul_add (2 * q) (b := 2 ^ k - 1) (i := k) (by omega) j]
  by_cases h : j < k
  · rw [if_pos h, if_pos h, Nat.testBit_two_pow_sub_one]; simpa using h
  · rw [if_neg h, if_neg h]
    by_cases e2 : j = k
    · rw [if_pos e2, show j - k = 0 by omega]; simp [Nat.testBit_zero]
    · rw [if_neg e2]

/-- m & (m - 1): the lowest bit goes. -/
theorem bit_drop (k q j : Nat) : ((2 ^ k * (2 * q + 1)) &&& (2 ^ k * (2 * q + 1) - 1)).testBit j = ((2 ^ k * (2 * q + 1)).testBit j && decide (j ≠ k)) := by
  rw [Nat.testBit_and, bit_low, bit_pred]
  by_cases h : j < k
  · simp [h]
  · by_cases e : j = k
    · subst e; simp
    · simp [h, e]

/-- m & -m of 64 bits: the lowest bit alone. -/
theorem bit_alone (k q : Nat) (h : 2 ^ k * (2 * q + 1) < 2 ^ 64) : (2 ^ k * (2 * q + 1)) &&& (2 ^ 64 - 2 ^ k * (2 * q + 1)) = 2 ^ k := by
  have hp : 0 < 2 ^ k * (2 * q + 1) := Nat.mul_pos (Nat.two_pow_pos k) (by omega)
  apply Nat.eq_of_testBit_eq
  intro j
  have hx : 2 ^ 64 - 2 ^ k * (2 * q + 1) = 2 ^ 64 - ((2 ^ k * (2 * q + 1) - 1) + 1) := by omega
  rw [Nat.testBit_and, hx, Nat.testBit_two_pow_sub_succ (by omega), bit_pred, Nat.testBit_two_pow]
  rw [bit_low]
  by_cases h1 : j < k
  · simp [h1]; omega
  · by_cases e : j = k
    · subst e
      have : j < 64 := by
        have : 2 ^ j ≤ 2 ^ j * (2 * q + 1) := Nat.le_mul_of_pos_right _ (by omega)
        exact (Nat.pow_lt_pow_iff_right (by omega : 1 < 2)).1 (Nat.lt_of_le_of_lt this h)
      simp [this]
    · have : ¬ k = j := fun h => e h.symm
      simp [h1, e, this]
      intro a _
      exact a

theorem low_lt (k q : Nat) (h : 2 ^ k * (2 * q + 1) < 2 ^ 64) : k < 64 := by
  have : 2 ^ k ≤ 2 ^ k * (2 * q + 1) := Nat.le_mul_of_pos_right _ (by omega)
  exact (Nat.pow_lt_pow_iff_right (by omega : 1 < 2)).1 (Nat.lt_of_le_of_lt this h)

/-- The cards of a set that a player holds, the lowest first. -/
def heldL (m : Nat) (hold : Nat → Nat) (p : Nat) (n : Nat) : List Nat := (List.range n).filter (fun c => m.testBit c && decide (hold c = p))

theorem held_skip (m : Nat) (hold : Nat → Nat) (p lo : Nat) : ∀ d, (∀ j, lo ≤ j → j < lo + d → m.testBit j = false) → heldL m hold p (lo + d) = heldL m hold p lo := by
  intro d
  induction d with
  | zero => intro _; rfl
  | succ d ih =>
    intro h
    have h1 := ih (fun j a b => h j a (by omega))
    have h2 := h (lo + d) (by omega) (by omega)
    rw [← h1, show lo + (d + 1) = lo + d + 1 by omega, heldL, List.range_succ, List.filter_append]
    simp [h2, heldL]

theorem held_next (m : Nat) (hold : Nat → Nat) (p n : Nat) (h : m.testBit n = true) : heldL m hold p (n + 1) = heldL m hold p n ++ (if hold n = p then [n] else []) := by
  rw [heldL, List.range_succ, List.filter_append]
  by_cases e : hold n = p
  · simp [h, e, heldL]
  · simp [h, e, heldL]

/-- What is left of a set from a place on. -/
def From (m r lo : Nat) : Prop := ∀ j, r.testBit j = (m.testBit j && decide (lo ≤ j))

theorem from_zero (m : Nat) : From m m 0 := fun j => by simp

theorem from_step (m r lo k q : Nat) (h : From m r lo) (e : r = 2 ^ k * (2 * q + 1)) : lo ≤ k ∧ m.testBit k = true ∧ (∀ j, lo ≤ j → j < k → m.testBit j = false) ∧ From m (r &&& (r - 1)) (k + 1) := by
  subst e
  have hk := h k
  rw [bit_low, if_neg (by omega), if_pos rfl] at hk
  have hk2 : m.testBit k = true ∧ lo ≤ k := by simpa using hk.symm
  refine ⟨hk2.2, hk2.1, fun j h1 h2 => ?_, fun j => ?_⟩
  · have hj := h j
    rw [bit_low, if_pos h2] at hj
    simpa [h1] using hj.symm
  · rw [bit_drop]
    have hj := h j
    rw [bit_low] at hj ⊢
    by_cases h1 : j < k
    · rw [if_pos h1] at hj ⊢
      simp; intro _; omega
    · by_cases e : j = k
      · subst e; simp
      · rw [if_neg h1, if_neg e] at hj ⊢
        rw [hj]
        have a1 : lo ≤ j := by omega
        have a2 : k + 1 ≤ j := by omega
        simp [a1, a2, e]

theorem from_end (m lo : Nat) (hold : Nat → Nat) (p : Nat) (h : From m 0 lo) : ∀ n, lo ≤ n → heldL m hold p n = heldL m hold p lo := by
  intro n hn
  obtain ⟨d, rfl⟩ : ∃ d, n = lo + d := ⟨n - lo, by omega⟩
  apply held_skip
  intro j h1 _
  have := h j
  simpa [h1] using this.symm

theorem held_nodup (m : Nat) (hold : Nat → Nat) (p n : Nat) : (heldL m hold p n).Nodup := List.Nodup.sublist List.filter_sublist List.nodup_range

/-- A card taken out of the set is taken out of the hand. -/
theorem held_out (m m' c : Nat) (hold : Nat → Nat) (p n : Nat) (h : ∀ j, m'.testBit j = (m.testBit j && decide (j ≠ c))) : heldL m' hold p n = (heldL m hold p n).erase c := by
  rw [(held_nodup m hold p n).erase_eq_filter, heldL, heldL, List.filter_filter]
  apply List.filter_congr
  intro j _
  rw [h j]
  by_cases e : j = c
  · subst e; simp
  · simp [e]

/-- A hand that lies in the set, each card held by its player: the same cards. -/
theorem held_perm (m : Nat) (hold : Nat → Nat) (p n : Nat) (l : List Nat) (hn : l.Nodup) (h : ∀ c, c ∈ l ↔ c < n ∧ m.testBit c = true ∧ hold c = p) : l.Perm (heldL m hold p n) := by
  refine (List.perm_ext_iff_of_nodup hn (held_nodup m hold p n)).2 (fun c => ?_)
  rw [h c, heldL, List.mem_filter, List.mem_range]
  simp

end Go.Proofs.YtiihnlpoagnkhaaDoor
