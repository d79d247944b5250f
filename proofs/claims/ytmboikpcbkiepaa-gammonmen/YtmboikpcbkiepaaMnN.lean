/-
  The men of a board are those of the side that it tells. No conditions beyond those that each theorem bears.
-/
import Derived.Test.YtmboikpcbkiepaaMnM
namespace Go.Proofs.Ytmboikpcbkiepaa

theorem sum_rng (l : List Int) : l.sum = ((List.range l.length).map (fun i => l.getD i 0)).sum := by
  have : l = (List.range l.length).map (fun i => l.getD i 0) := by
    refine List.ext_getElem (by simp) (fun i h1 h2 => ?_)
    simp [List.getD, h1]
  exact congrArg List.sum this

theorem own_rng {s : List Int} (hl : s.length = 52) : ownS s = ((List.range 26).map (fun i => s.getD i 0)).sum := by
  unfold ownS
  rw [sum_rng, show (s.take 26).length = 26 by simp [hl]]
  congr 1
  refine List.map_congr_left (fun i hi => ?_)
  have := List.mem_range.1 hi
  simp [List.getD, this]

theorem oth_rng {s : List Int} (hl : s.length = 52) : othS s = ((List.range 26).map (fun i => s.getD (26 + i) 0)).sum := by
  unfold othS
  rw [sum_rng, show (s.drop 26).length = 26 by simp [hl]]
  congr 1
  refine List.map_congr_left (fun i hi => ?_)
  simp [List.getD]

theorem map_rng (f : Int → Int) (P : List Int) (hP : P.length = 26) : (P.map f).sum = ((List.range 26).map (fun i => f (P.getD i 0))).sum := by
  rw [sum_rng, List.length_map, hP]
  congr 1
  refine List.map_congr_left (fun i hi => ?_)
  have := List.mem_range.1 hi
  simp [List.getD, show i < P.length by omega]

/-- A sum read backwards. -/
theorem rng_back (f : Nat → Int) : ((List.range 26).map (fun i => f (25 - i))).sum = ((List.range 26).map f).sum := by
  simp only [List.range, List.range.loop, List.map_cons, List.map_nil, List.sum_cons, List.sum_nil]
  simp only [Nat.reduceSub]
  omega

/-- At the ends nothing stands, between them what 'g' tells. -/
theorem rng_in (f g : Nat → Int) (h0 : f 0 = 0) (h25 : f 25 = 0) (g0 : g 0 = 0) (h : ∀ i, 1 ≤ i → i ≤ 24 → f i = g i) : ((List.range 26).map f).sum + g 25 = ((List.range 26).map g).sum := by
  have hc : ((List.range 25).map f).sum = ((List.range 25).map g).sum := by
    congr 1
    refine List.map_congr_left (fun i hi => ?_)
    have := List.mem_range.1 hi
    by_cases e : i = 0
    · rw [e, h0, g0]
    · exact h i (by omega) (by omega)
  rw [List.range_succ, List.map_append, List.map_append, List.sum_append, List.sum_append, hc, List.map_singleton, List.map_singleton]
  simp [h25]

theorem rng_in2 (f g : Nat → Int) (h0 : f 0 = 0) (h25 : f 25 = 0) (g25 : g 25 = 0) (h : ∀ i, 1 ≤ i → i ≤ 24 → f i = g i) : ((List.range 26).map f).sum + g 0 = ((List.range 26).map g).sum := by
  have e := rng_in (fun i => f (25 - i)) (fun i => g (25 - i)) h25 h0 g25 (fun i h1 h2 => h (25 - i) (by omega) (by omega))
  rw [rng_back f, rng_back g] at e
  exact e

theorem up_own {a b : Int} (ha : 0 ≤ a) (hb : 0 ≤ b) (h : a = 0 ∨ b = 0) : up (a - b) = a := by
  rcases up_sp (a - b) with ⟨h1, h2⟩ | ⟨h1, h2⟩ <;> rw [h2] <;> omega

/-- White's men and Black's on a board that a side tells. -/
theorem bo_men {t : Nat} (ht : t ≤ 1) {s : List Int} (h : Pr s) :
    (ws (bo t s).W (bo t s).P).sum = (if t = 0 then ownS s else othS s) ∧ (bs (bo t s).B (bo t s).P).sum = (if t = 0 then othS s else ownS s) := by
  have e0 : ∀ g : Int → Int, g 0 = 0 → g ((toldP s t).getD 0 0) = 0 := fun g hg => by rw [told_edge s t 0 (Or.inl rfl), hg]
  have e25 : ∀ g : Int → Int, g 0 = 0 → g ((toldP s t).getD 25 0) = 0 := fun g hg => by rw [told_edge s t 25 (Or.inr rfl), hg]
  have u0 : up 0 = 0 := rfl
  have z0 := h.z0
  have z51 := h.z51
  show (ownB (s.getD 25 0) (s.getD 26 0) t :: (toldP s t).map up).sum = _ ∧ (othB (s.getD 25 0) (s.getD 26 0) t :: (toldP s t).map (fun z => up (-z))).sum = _
  rw [List.sum_cons, List.sum_cons, map_rng up _ (toldP_length s t), map_rng (fun z => up (-z)) _ (toldP_length s t), own_rng h.len, oth_rng h.len]
  unfold ownB othB
  rcases (show t = 0 ∨ t = 1 by omega) with rfl | rfl
  · rw [if_pos rfl, if_pos rfl, if_pos rfl, if_pos rfl]
    have k1 := rng_in (fun i => up ((toldP s 0).getD i 0)) (fun i => s.getD i 0) (e0 up u0) (e25 up u0) z0 (fun i h1 h2 => by
      show up ((toldP s 0).getD i 0) = s.getD i 0
      rw [told_at s 0 i ⟨h1, h2⟩]
      exact up_own (h.pos _) (h.pos _) (h.ex i h1 h2))
    have k2 := rng_in2 (fun i => up (-(toldP s 0).getD i 0)) (fun i => s.getD (26 + i) 0) (e0 (fun z => up (-z)) rfl) (e25 (fun z => up (-z)) rfl) z51 (fun i h1 h2 => by
      show up (-(toldP s 0).getD i 0) = s.getD (26 + i) 0
      rw [told_at s 0 i ⟨h1, h2⟩]
      show up (-(s.getD i 0 - s.getD (26 + i) 0)) = _
      rw [Int.neg_sub]
      exact up_own (h.pos _) (h.pos _) (h.ex i h1 h2).symm)
    exact ⟨by rw [← k1]; exact Int.add_comm _ _, by rw [← k2]; exact Int.add_comm _ _⟩
  · rw [if_neg (by omega), if_neg (by omega), if_neg (by omega), if_neg (by omega)]
    have k1 := rng_in2 (fun i => up ((toldP s 1).getD (25 - i) 0)) (fun i => s.getD (26 + i) 0) (e25 up u0) (e0 up u0) z51 (fun i h1 h2 => by
      show up ((toldP s 1).getD (25 - i) 0) = s.getD (26 + i) 0
      rw [told_at s 1 (25 - i) (by omega)]
      show up (-(s.getD (25 - (25 - i)) 0 - s.getD (26 + (25 - (25 - i))) 0)) = _
      rw [Int.neg_sub, show 25 - (25 - i) = i by omega]
      exact up_own (h.pos _) (h.pos _) (h.ex i h1 h2).symm)
    have k2 := rng_in (fun i => up (-(toldP s 1).getD (25 - i) 0)) (fun i => s.getD i 0) (e25 (fun z => up (-z)) rfl) (e0 (fun z => up (-z)) rfl) z0 (fun i h1 h2 => by
      show up (-(toldP s 1).getD (25 - i) 0) = s.getD i 0
      rw [told_at s 1 (25 - i) (by omega)]
      show up (-(-(s.getD (25 - (25 - i)) 0 - s.getD (26 + (25 - (25 - i))) 0))) = _
      rw [Int.neg_neg, show 25 - (25 - i) = i by omega]
      exact up_own (h.pos _) (h.pos _) (h.ex i h1 h2))
    rw [rng_back (fun i => up ((toldP s 1).getD i 0))] at k1
    rw [rng_back (fun i => up (-(toldP s 1).getD i 0))] at k2
    exact ⟨by rw [← k1]; exact Int.add_comm _ _, by rw [← k2]; exact Int.add_comm _ _⟩

end Go.Proofs.Ytmboikpcbkiepaa
