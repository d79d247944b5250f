/-
  What is sorted, and then stripped of doubles, is told by its set. No conditions beyond those that each theorem bears.
-/
import Derived.Test.YtafiaimlmdflnaaNm
import Derived.Lib.SlicesCompact
namespace Go.Proofs.Ytafiaimlmdflnaa
open Go.Lib

theorem compactUpTo_sorted (d : Array Int) (hs : ∀ i j, i ≤ j → j < d.size → d[i]! ≤ d[j]!) : ∀ m, m ≤ d.size → (compactUpTo d m).Pairwise (· < ·) ∧ ∀ x, x ∈ compactUpTo d m ↔ ∃ j, j < m ∧ d[j]! = x := by
  intro m
  induction m with
  | zero => exact fun _ => ⟨by simp [compactUpTo], fun x => by simp [compactUpTo]⟩
  | succ m ih =>
    intro hm
    obtain ⟨h1, h2⟩ := ih (by omega)
    rw [compactUpTo_succ]
    by_cases hk : keeps d m = true
    · rw [if_pos hk]
      refine ⟨List.pairwise_append.2 ⟨h1, by simp, fun a ha b hb => ?_⟩, fun x => ?_⟩
      · obtain ⟨j, hj, rfl⟩ := (h2 a).1 ha
        rw [List.mem_singleton.1 hb]
        have hk' : m = 0 ∨ d[m]! ≠ d[m - 1]! := by simpa [keeps] using hk
        have a1 := hs j (m - 1) (by omega) (by omega)
        have a2 := hs (m - 1) m (by omega) (by omega)
        rcases hk' with h | h
        · omega
        · omega
      · rw [List.mem_append, h2 x, List.mem_singleton]
        constructor
        · rintro (⟨j, hj, e⟩ | e)
          · exact ⟨j, by omega, e⟩
          · exact ⟨m, by omega, e.symm⟩
        · rintro ⟨j, hj, e⟩
          by_cases hjm : j = m
          · subst hjm; exact .inr e.symm
          · exact .inl ⟨j, by omega, e⟩
    · rw [if_neg hk, List.append_nil]
      refine ⟨h1, fun x => ?_⟩
      rw [h2 x]
      constructor
      · rintro ⟨j, hj, e⟩; exact ⟨j, by omega, e⟩
      · rintro ⟨j, hj, e⟩
        by_cases hjm : j = m
        · subst hjm
          have hk' : j ≠ 0 ∧ d[j]! = d[j - 1]! := by
            have : ¬ (j = 0 ∨ d[j]! ≠ d[j - 1]!) := by simpa [keeps] using hk
            exact ⟨fun e => this (.inl e), Classical.not_not.1 fun e => this (.inr e)⟩
          exact ⟨j - 1, by omega, by rw [← e]; exact hk'.2.symm⟩
        · exact ⟨j, by omega, e⟩

theorem lt_sorted_eq {L M : List Int} (hL : L.Pairwise (· < ·)) (hM : M.Pairwise (· < ·)) (h : ∀ q, q ∈ L ↔ q ∈ M) : L = M := by
  refine List.Perm.eq_of_pairwise (le := (· < ·)) (fun a b _ _ h1 h2 => by omega) hL hM ?_
  exact (List.perm_ext_iff_of_nodup (hL.imp (fun h => by omega)) (hM.imp (fun h => by omega))).2 h

/-- The places of a list, sorted and stripped of doubles. -/
theorem compact_pls {N : Nat} {P : Nat → Prop} {F : List Nat} (h : ∀ q, q ∈ F ↔ q < N ∧ P q) : compact ((toI F).mergeSort fun x y => decide (x ≤ y)) = toI (pls N P) := by
  obtain ⟨S, hS⟩ : ∃ S, (toI F).mergeSort (fun x y => decide (x ≤ y)) = S := ⟨_, rfl⟩
  have hp : S.Pairwise (fun x y : Int => decide (x ≤ y) = true) := by
    rw [← hS]
    refine List.pairwise_mergeSort ?_ ?_ _
    · intro a b c h1 h2; simp at h1 h2 ⊢; omega
    · intro a b; simp; omega
  have hm : ∀ x, x ∈ S ↔ x ∈ toI F := fun x => by rw [← hS]; exact (List.mergeSort_perm _ _).mem_iff
  rw [hS]
  unfold compact
  have hget : ∀ i, i < S.length → S.toArray[i]! = S.getD i 0 := fun i hi => by simp [List.getD, hi]
  obtain ⟨c1, c2⟩ := compactUpTo_sorted S.toArray (fun i j hij hj => by
    have hj' : j < S.length := by simpa using hj
    rw [hget i (by omega), hget j hj']
    by_cases e : i = j
    · subst e; exact Int.le_refl _
    · have := List.pairwise_iff_getElem.1 hp i j (by omega) hj' (by omega)
      simpa [List.getD, hj', show i < S.length by omega] using this) S.length (by simp)
  refine lt_sorted_eq c1 ?_ (fun x => ?_)
  · rw [toI, List.pairwise_map]
    exact (pls_lt N P).imp (fun h => by omega)
  · rw [c2 x]
    constructor
    · rintro ⟨j, hj, rfl⟩
      rw [hget j hj]
      have : S.getD j 0 ∈ S := by simp [List.getD, hj]
      have := (hm _).1 this
      obtain ⟨q, hq, e⟩ := List.mem_map.1 (show S.getD j 0 ∈ F.map (fun x : Nat => (x : Int)) from this)
      exact List.mem_map.2 ⟨q, mem_pls.2 ((h q).1 hq), e⟩
    · intro hx
      obtain ⟨q, hq, e⟩ := List.mem_map.1 (show x ∈ (pls N P).map (fun x : Nat => (x : Int)) from hx)
      have h3 : x ∈ S := (hm x).2 (List.mem_map.2 ⟨q, (h q).2 (mem_pls.1 hq), e⟩)
      obtain ⟨j, hj, e2⟩ := List.getElem_of_mem h3
      exact ⟨j, hj, by rw [hget j hj, ← e2]; simp [List.getD, hj]⟩

end Go.Proofs.Ytafiaimlmdflnaa
