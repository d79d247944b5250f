/-
  The first best of sets told in two orders. No conditions beyond those that each theorem bears.
-/
import Derived.Test.YtneafmjbekafmaaLess
import Derived.Test.YtneafmjbekafmaaKeptMath
namespace Go.Proofs.Ytneafmjbekafmaa
open Go.RowKit Go.Shelf

theorem lexI_irr : ∀ xs : List Int, lexI xs xs = false
  | [] => by simp [lexI]
  | x :: xs => by simp [lexI, lexI_irr xs]

theorem lexI_tr : ∀ xs ys zs : List Int, lexI xs ys = true → lexI ys zs = true → lexI xs zs = true
  | [], [], _, h, _ => by simp [lexI] at h
  | _ :: _, [], _, h, _ => by simp [lexI] at h
  | [], _ :: _, [], _, h => by simp [lexI] at h
  | _ :: _, _ :: _, [], _, h => by simp [lexI] at h
  | [], _ :: _, _ :: _, _, _ => by simp [lexI]
  | x :: xs, y :: ys, z :: zs, h1, h2 => by
    simp only [lexI] at h1 h2 ⊢
    by_cases e1 : x = y
    · rw [if_pos e1] at h1
      by_cases e2 : y = z
      · rw [if_pos e2] at h2
        rw [if_pos (e1.trans e2)]
        exact lexI_tr xs ys zs h1 h2
      · rw [if_neg e2] at h2
        subst e1
        rw [if_neg e2]
        exact h2
    · rw [if_neg e1] at h1
      simp only [decide_eq_true_eq] at h1
      by_cases e2 : y = z
      · subst e2
        rw [if_neg e1]
        simpa using h1
      · rw [if_neg e2] at h2
        simp only [decide_eq_true_eq] at h2
        rw [if_neg (by omega)]
        simp; omega

/-- One round of the reference: more, or as many and ahead. -/
def refS (f : List Nat → Nat) (st : Int × List Nat) (s : List Nat) : Int × List Nat :=
  if st.1 < (f s : Int) ∨ (st.1 = (f s : Int) ∧ lexI (toI s) (toI st.2) = true) then ((f s : Int), s) else st

/-- One round of the program: more. -/
def fstS (f : List Nat → Nat) (st : Int × List Nat) (s : List Nat) : Int × List Nat :=
  if st.1 < (f s : Int) then ((f s : Int), s) else st

theorem ref_inv (f : List Nat → Nat) : ∀ (L D : List (List Nat)) (s : List Nat), s ∈ D → (∀ t ∈ D, f t < f s ∨ (f t = f s ∧ lexI (toI t) (toI s) = false)) →
    ∃ r ∈ D ++ L, L.foldl (refS f) ((f s : Int), s) = ((f r : Int), r) ∧ ∀ t ∈ D ++ L, f t < f r ∨ (f t = f r ∧ lexI (toI t) (toI r) = false)
  | [], D, s, hs, hD => ⟨s, by simpa using hs, rfl, by simpa using hD⟩
  | u :: L, D, s, hs, hD => by
    have hA : D ++ u :: L = (D ++ [u]) ++ L := by simp
    rw [hA, List.foldl_cons]
    by_cases hc : ((f s : Int) < (f u : Int) ∨ ((f s : Int) = (f u : Int) ∧ lexI (toI u) (toI s) = true))
    · rw [show refS f ((f s : Int), s) u = ((f u : Int), u) from if_pos hc]
      refine ref_inv f L (D ++ [u]) u (by simp) ?_
      intro t ht
      rcases List.mem_append.1 ht with ht | ht
      · rcases hc with hc | ⟨hc, hl⟩
        · left
          rcases hD t ht with h | h
          · omega
          · omega
        · rcases hD t ht with h | ⟨h, h'⟩
          · left; omega
          · right
            refine ⟨by omega, ?_⟩
            cases hx : lexI (toI t) (toI u) with
            | false => rfl
            | true => rw [lexI_tr _ _ _ hx hl] at h'; exact absurd h' (by simp)
      · have : t = u := by simpa using ht
        subst this
        exact .inr ⟨rfl, lexI_irr _⟩
    · rw [show refS f ((f s : Int), s) u = ((f s : Int), s) from if_neg hc]
      refine ref_inv f L (D ++ [u]) s (by simp [hs]) ?_
      intro t ht
      rcases List.mem_append.1 ht with ht | ht
      · exact hD t ht
      · have : t = u := by simpa using ht
        subst this
        by_cases he : f t = f s
        · right
          refine ⟨he, ?_⟩
          cases hx : lexI (toI t) (toI s) with
          | false => rfl
          | true => exact absurd (.inr ⟨by omega, hx⟩) hc
        · left
          have : ¬ ((f s : Int) < (f t : Int)) := fun h => hc (.inl h)
          omega

theorem fst_inv (f : List Nat → Nat) : ∀ (L D : List (List Nat)) (s : List Nat), s ∈ D → (D ++ L).Pairwise (fun x y => lexI (toI x) (toI y) = true) → (∀ t ∈ D, f t < f s ∨ (f t = f s ∧ (t = s ∨ lexI (toI s) (toI t) = true))) →
    ∃ r ∈ D ++ L, L.foldl (fstS f) ((f s : Int), s) = ((f r : Int), r) ∧ ∀ t ∈ D ++ L, f t < f r ∨ (f t = f r ∧ (t = r ∨ lexI (toI r) (toI t) = true))
  | [], D, s, hs, _, hD => ⟨s, by simpa using hs, rfl, by simpa using hD⟩
  | u :: L, D, s, hs, hp, hD => by
    have hA : D ++ u :: L = (D ++ [u]) ++ L := by simp
    have hsu : lexI (toI s) (toI u) = true := (List.pairwise_append.1 hp).2.2 s hs u (by simp)
    rw [hA] at hp ⊢
    rw [List.foldl_cons]
    by_cases hc : (f s : Int) < (f u : Int)
    · rw [show fstS f ((f s : Int), s) u = ((f u : Int), u) from if_pos hc]
      refine fst_inv f L (D ++ [u]) u (by simp) hp ?_
      intro t ht
      rcases List.mem_append.1 ht with ht | ht
      · left
        rcases hD t ht with h | h
        · omega
        · omega
      · have : t = u := by simpa using ht
        subst this
        exact .inr ⟨rfl, .inl rfl⟩
    · rw [show fstS f ((f s : Int), s) u = ((f s : Int), s) from if_neg hc]
      refine fst_inv f L (D ++ [u]) s (by simp [hs]) hp ?_
      intro t ht
      rcases List.mem_append.1 ht with ht | ht
      · exact hD t ht
      · have : t = u := by simpa using ht
        subst this
        by_cases he : f t = f s
        · exact .inr ⟨he, .inr hsu⟩
        · left; omega

/-- The two orders end with one set. -/
theorem two_orders (f : List Nat → Nat) (u : List Nat) (L : List (List Nat)) (v : List Nat) (M : List (List Nat)) (hm : ∀ t, t ∈ u :: L ↔ t ∈ v :: M)
    (hp : (v :: M).Pairwise (fun x y => lexI (toI x) (toI y) = true)) :
    (u :: L).foldl (refS f) (-1, []) = (v :: M).foldl (fstS f) (-1, []) := by
  rw [List.foldl_cons, List.foldl_cons, show refS f (-1, []) u = ((f u : Int), u) from if_pos (.inl (by simp only; omega)), show fstS f (-1, []) v = ((f v : Int), v) from if_pos (by simp only; omega)]
  obtain ⟨r, hr, er, ar⟩ := ref_inv f L [u] u (by simp) (fun t ht => .inr (by rw [List.mem_singleton.1 ht]; exact ⟨rfl, lexI_irr _⟩))
  obtain ⟨s, hs, es, aS⟩ := fst_inv f M [v] v (by simp) (by simpa using hp) (fun t ht => .inr (by rw [List.mem_singleton.1 ht]; exact ⟨rfl, .inl rfl⟩))
  rw [er, es]
  have hrs : r ∈ v :: M := (hm r).1 (by simpa using hr)
  have hsr : s ∈ u :: L := (hm s).2 (by simpa using hs)
  have h1 := ar s (by simpa using hsr)
  have h2 := aS r (by simpa using hrs)
  have : r = s := by
    rcases h1 with h1 | ⟨h1, h1'⟩
    · rcases h2 with h2 | ⟨h2, _⟩ <;> omega
    · rcases h2 with h2 | ⟨_, h2 | h2⟩
      · omega
      · exact h2
      · rw [h1'] at h2; exact absurd h2 (by simp)
  rw [this]

/-- The fifteen fours in the reference's order. -/
def refSets : List (List Nat) := (List.range 6).flatMap (fun x => (List.range x).map (fun y => twoOut x y 6))

theorem refSets_best (f : List Nat → Nat) : refSets.foldl (refS f) (-1, []) = (comb 4 (List.range 6)).foldl (fstS f) (-1, []) := by
  have h1 : refSets = refSets.headD [] :: refSets.tail := by decide +kernel
  have h2 : comb 4 (List.range 6) = (comb 4 (List.range 6)).headD [] :: (comb 4 (List.range 6)).tail := by decide +kernel
  have h3 : ∀ t ∈ refSets, t ∈ comb 4 (List.range 6) := by decide +kernel
  have h4 : ∀ t ∈ comb 4 (List.range 6), t ∈ refSets := by decide +kernel
  have h5 : (comb 4 (List.range 6)).Pairwise (fun x y => lexI (toI x) (toI y) = true) := by decide +kernel
  rw [h1, h2]
  refine two_orders f _ _ _ _ ?_ ?_
  · rw [← h1, ← h2]
    exact fun t => ⟨h3 t, h4 t⟩
  · rw [← h2]
    exact h5

/-- crib.Keep's fold, told by places. -/
theorem keepF_places (H S : List Nat) : ∀ (pre : List (List Nat)) (st : Int × List Nat),
    pre.foldl (keepS H S) (st.1, pick H st.2) = ((pre.foldl (fstS (sumF H S)) st).1, pick H (pre.foldl (fstS (sumF H S)) st).2)
  | [], st => rfl
  | s :: pre, st => by
    rw [List.foldl_cons, List.foldl_cons, ← keepF_places H S pre]
    congr 1
    by_cases h : st.1 < (sumF H S s : Int)
    · simp [keepS, fstS, h]
    · simp [keepS, fstS, h]

/-- crib.Keep's answer is the reference's, told by places. -/
theorem keepF_ref (H S : List Nat) : keepF H S (comb 4 (List.range 6)) = ((refSets.foldl (refS (sumF H S)) (-1, [])).1, pick H (refSets.foldl (refS (sumF H S)) (-1, [])).2) := by
  rw [refSets_best]
  exact keepF_places H S _ (-1, [])

end Go.Proofs.Ytneafmjbekafmaa
