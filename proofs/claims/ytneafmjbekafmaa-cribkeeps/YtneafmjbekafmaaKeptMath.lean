/-
  The best four: one of the fours, and none brings more. No conditions beyond those that each theorem bears.
-/
import Derived.Test.YtneafmjbekafmaaKeep
namespace Go.Proofs.Ytneafmjbekafmaa
open Go.RowKit Go.Shelf

/-- So far so good: nothing yet, or the best of them. -/
def KeepOk (H S : List Nat) (pre : List (List Nat)) (st : Int × List Nat) : Prop :=
  (pre = [] ∧ st = (-1, [])) ∨ ∃ s ∈ pre, st = ((sumF H S s : Int), pick H s) ∧ ∀ t ∈ pre, (sumF H S t : Int) ≤ st.1

theorem keep_ok (H S : List Nat) : ∀ (xs pre : List (List Nat)) (st : Int × List Nat), KeepOk H S pre st → KeepOk H S (pre ++ xs) (xs.foldl (keepS H S) st) := by
  intro xs
  induction xs with
  | nil => intro pre st h; simpa using h
  | cons x xs ih =>
    intro pre st h
    rw [List.foldl_cons, show pre ++ x :: xs = (pre ++ [x]) ++ xs by simp]
    apply ih
    right
    unfold keepS
    rcases h with ⟨rfl, rfl⟩ | ⟨s, hs, rfl, hall⟩
    · rw [if_pos (by show (-1 : Int) < _; omega)]
      refine ⟨x, by simp, rfl, ?_⟩
      intro t ht
      simp at ht
      subst ht
      exact Int.le_refl _
    · by_cases hlt : (sumF H S s : Int) < (sumF H S x : Int)
      · rw [if_pos hlt]
        refine ⟨x, by simp, rfl, ?_⟩
        intro t ht
        rcases List.mem_append.1 ht with ht | ht
        · have := hall t ht
          show (sumF H S t : Int) ≤ (sumF H S x : Int)
          have h2 : (sumF H S t : Int) ≤ (sumF H S s : Int) := this
          omega
        · simp at ht; subst ht; exact Int.le_refl _
      · rw [if_neg hlt]
        refine ⟨s, by simp [hs], rfl, ?_⟩
        intro t ht
        rcases List.mem_append.1 ht with ht | ht
        · exact hall t ht
        · simp at ht; subst ht
          show (sumF H S t : Int) ≤ (sumF H S s : Int)
          omega

theorem keep_best (H S : List Nat) (xs : List (List Nat)) (hne : xs ≠ []) : ∃ s ∈ xs, keepF H S xs = ((sumF H S s : Int), pick H s) ∧ ∀ t ∈ xs, sumF H S t ≤ sumF H S s := by
  have h := keep_ok H S xs [] (-1, []) (.inl ⟨rfl, rfl⟩)
  rw [List.nil_append] at h
  rcases h with ⟨h, _⟩ | ⟨s, hs, he, hall⟩
  · exact absurd h hne
  · have he' : keepF H S xs = _ := he
    refine ⟨s, hs, he', fun t ht => ?_⟩
    have := hall t ht
    rw [he] at this
    have h2 : (sumF H S t : Int) ≤ (sumF H S s : Int) := this
    omega

/-- The sum over the cards below k that are not known. -/
def sumO (L : List Nat) (zs : List Int) (k : Nat) : Nat := ((othK zs k).map (fun s => scN L s false)).sum

theorem sumO_succ (L : List Nat) (zs : List Int) (k : Nat) : sumO L zs (k + 1) = sumO L zs k + (if zs.contains (k : Int) = true then 0 else scN L k false) := by
  unfold sumO
  rw [othK_succ]
  by_cases h : zs.contains (k : Int) = true
  · rw [if_pos h, if_pos h]; simp
  · rw [if_neg h, if_neg h]; simp

theorem sumSc_take (L S : List Nat) : ∀ k, k ≤ S.length → sumSc L S k = ((S.take k).map (fun s => scN L s false)).sum := by
  intro k
  induction k with
  | zero => intro _; rfl
  | succ k ih =>
    intro hk
    have : S.take (k + 1) = S.take k ++ [S.getD k 0] := take_snoc S k (by omega)
    rw [sumSc, ih (by omega), this]
    simp

theorem sumF_sumO (H s : List Nat) : sumF H (othK (toI H) 52) s = sumO (pick H s) (toI H) 52 := by
  rw [sumF, sumSc_take _ _ _ (Nat.le_refl _), List.take_length]; rfl

theorem contains_toI (H : List Nat) (k : Nat) : (toI H).contains (k : Int) = H.contains k := by
  rw [Bool.eq_iff_iff, List.contains_iff_mem, List.contains_iff_mem]
  constructor
  · intro h
    obtain ⟨x, hx, e⟩ := List.mem_map.1 h
    have : x = k := by omega
    exact this ▸ hx
  · intro h; exact List.mem_map.2 ⟨k, h, rfl⟩

/-- All places but two. -/
def twoOut (x y n : Nat) : List Nat := (List.range n).filter (fun i => decide (¬ i = x) && decide (¬ i = y))

theorem twoOut_succ (x y n : Nat) : twoOut x y (n + 1) = twoOut x y n ++ (if n = x ∨ n = y then [] else [n]) := by
  simp only [twoOut, List.range_succ, List.filter_append, List.filter_cons, List.filter_nil]
  by_cases h1 : n = x
  · simp [h1]
  · by_cases h2 : n = y
    · simp [h2]
    · simp [h1, h2]

theorem twoOut_mem : ∀ x, x < 6 → ∀ y, y < 6 → ¬ y = x → twoOut x y 6 ∈ comb 4 (List.range 6) := by decide +kernel
theorem comb_nodup : ∀ s ∈ comb 4 (List.range 6), s.Nodup ∧ s.length = 4 ∧ ∀ i ∈ s, i < 6 := by decide +kernel

theorem sumO_le (L : List Nat) (zs : List Int) (h : ∀ k : Nat, k < 52 → zs.contains (k : Int) = false → scN L k false ≤ 29) : ∀ k, k ≤ 52 → sumO L zs k ≤ 29 * k := by
  intro k
  induction k with
  | zero => intro _; simp [sumO, othK]
  | succ k ih =>
    intro hk
    have h1 := ih (by omega)
    rw [sumO_succ]
    by_cases hc : zs.contains (k : Int) = true
    · rw [if_pos hc]; omega
    · rw [if_neg hc]
      have := h k (by omega) (by simpa using hc)
      omega

/-- A four of the six, and a start card that is none of them. -/
theorem four_start {H s : List Nat} (hn : H.Nodup) (hlt : ∀ x ∈ H, x < 52) (hl : H.length = 6) (hs : s ∈ comb 4 (List.range 6)) {k : Nat} (hk : k < 52) (hc : H.contains k = false) :
    (pick H s).length = 4 ∧ (pick H s ++ [k]).Nodup ∧ ∀ x ∈ pick H s ++ [k], x < 52 := by
  obtain ⟨d1, d2, d3⟩ := comb_nodup s hs
  obtain ⟨q0, q1, q2, q3, rfl⟩ : ∃ x0 x1 x2 x3, s = [x0, x1, x2, x3] := by
    match s, d2 with
    | [x0, x1, x2, x3], _ => exact ⟨x0, x1, x2, x3, rfl⟩
  have hF := oth_four hn hlt q0 q1 q2 q3 (by have := d3 q0 (by simp); omega) (by have := d3 q1 (by simp); omega) (by have := d3 q2 (by simp); omega) (by have := d3 q3 (by simp); omega) d1
  have hm : k ∈ othK (toI H) 52 := by
    simp only [othK, List.mem_filter, List.mem_range]
    exact ⟨hk, by rw [contains_toI, hc]; rfl⟩
  refine ⟨hF.len, (hF.start k hm).2, fun x hx => ?_⟩
  rcases List.mem_append.1 hx with hx | hx
  · exact hF.lt x hx
  · obtain rfl := List.mem_singleton.1 hx; exact hk

theorem contains_take (H : List Nat) (k t : Nat) (ht : t < H.length) : (H.take (t + 1)).contains k = ((H.take t).contains k || decide (H.getD t 0 = k)) := by
  rw [show H.take (t + 1) = H.take t ++ [H.getD t 0] from take_snoc H t ht, List.contains_append]
  congr 1
  rw [Bool.eq_iff_iff, List.contains_iff_mem, decide_eq_true_eq, List.mem_singleton]
  exact ⟨fun h => h.symm, fun h => h.symm⟩

end Go.Proofs.Ytneafmjbekafmaa
