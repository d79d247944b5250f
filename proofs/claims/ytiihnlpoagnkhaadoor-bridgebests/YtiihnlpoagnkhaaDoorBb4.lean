/-
  What bridge.Best answers, whatever it is given, told by the document's search. No conditions beyond those that each theorem bears.
-/
import Derived.Test.YtiihnlpoagnkhaaDoorBb3
import Derived.Test.YtiihnlpoagnkhaaDoorRf3
namespace Go.Proofs.YtiihnlpoagnkhaaDoor
open Go.RowKit Go.Lib

theorem cat4 (Z : Nat → List Int) : cat Z 4 = Z 0 ++ (Z 1 ++ (Z 2 ++ Z 3)) := by simp [cat]

theorem un_of (Z : Nat → List Int) (h : mayE (cat Z 4) = 0) : (∀ i, i < 4 → toI (natL (Z i)) = Z i) ∧ Un (fun i => natL (Z i)) := by
  obtain ⟨hr, hd⟩ := mayE_zero h
  rw [cat4] at hr hd
  have hrng : ∀ i, i < 4 → ∀ z ∈ Z i, 0 ≤ z ∧ z < 52 := by
    simp only [inRange, List.all_eq_true, decide_eq_true_eq, List.mem_append] at hr
    intro i hi z hz
    rcases (show i = 0 ∨ i = 1 ∨ i = 2 ∨ i = 3 by omega) with rfl | rfl | rfl | rfl
    · exact hr z (Or.inl hz)
    · exact hr z (Or.inr (Or.inl hz))
    · exact hr z (Or.inr (Or.inr (Or.inl hz)))
    · exact hr z (Or.inr (Or.inr (Or.inr hz)))
  have hback : ∀ i, i < 4 → toI (natL (Z i)) = Z i := fun i hi => toI_natL (by
    simp only [inRange, List.all_eq_true, decide_eq_true_eq]
    exact hrng i hi)
  have hmem : ∀ i, i < 4 → ∀ x ∈ natL (Z i), (x : Int) ∈ Z i := by
    intro i hi x hx
    rw [← hback i hi]
    exact List.mem_map.2 ⟨x, hx, rfl⟩
  rw [List.nodup_append] at hd
  obtain ⟨d0, hd, x0⟩ := hd
  rw [List.nodup_append] at hd
  obtain ⟨d1, hd, x1⟩ := hd
  rw [List.nodup_append] at hd
  obtain ⟨d2, d3, x2⟩ := hd
  refine ⟨hback, ⟨?_, ?_, ?_⟩⟩
  · intro q hq x hx
    have := hrng q hq _ (hmem q hq x hx)
    omega
  · intro q hq
    have hn : (toI (natL (Z q))).Nodup := by
      rw [hback q hq]
      rcases (show q = 0 ∨ q = 1 ∨ q = 2 ∨ q = 3 by omega) with rfl | rfl | rfl | rfl
      · exact d0
      · exact d1
      · exact d2
      · exact d3
    show (natL (Z q)).Nodup
    unfold toI at hn
    rw [List.nodup_iff_pairwise_ne] at hn ⊢
    rw [List.pairwise_map] at hn
    exact hn.imp (fun h e => h (by rw [e]))
  · have key : ∀ q r, q < 4 → r < 4 → q < r → ∀ x : Int, x ∈ Z q → x ∈ Z r → False := by
      intro q r hq hr hqr x h1 h2
      rcases (show q = 0 ∧ r = 1 ∨ q = 0 ∧ r = 2 ∨ q = 0 ∧ r = 3 ∨ q = 1 ∧ r = 2 ∨ q = 1 ∧ r = 3 ∨ q = 2 ∧ r = 3 by omega) with ⟨rfl, rfl⟩ | ⟨rfl, rfl⟩ | ⟨rfl, rfl⟩ | ⟨rfl, rfl⟩ | ⟨rfl, rfl⟩ | ⟨rfl, rfl⟩
      · exact x0 x h1 x (by simp [h2]) rfl
      · exact x0 x h1 x (by simp [h2]) rfl
      · exact x0 x h1 x (by simp [h2]) rfl
      · exact x1 x h1 x (by simp [h2]) rfl
      · exact x1 x h1 x (by simp [h2]) rfl
      · exact x2 x h1 x h2 rfl
    intro q r hq hr hqr x h1 h2
    rcases Nat.lt_or_gt_of_ne hqr with h | h
    · exact key q r hq hr h x (hmem q hq x h1) (hmem r hr x h2)
    · exact key r q hr hq h x (hmem r hr x h2) (hmem q hq x h1)

/-- What Best answers. -/
def BestIs (N : Nat) (Z : Nat → List Int) (s ld rn re : Int) : Prop :=
  (¬ Fit N Z ∧ rn = 0 ∧ re = 11) ∨ (Fit N Z ∧ lateE Z s ld ≠ 0 ∧ rn = 0 ∧ re = lateE Z s ld) ∨
    (Fit N Z ∧ lateE Z s ld = 0 ∧ re = 0 ∧ rn = ((bt (winF s) (5 * (Z 0).length) (fun i => natL (Z i)) ld.toNat [] : Nat) : Int))

theorem late_zero {Z : Nat → List Int} {s ld : Int} (h : lateE Z s ld = 0) : mayE (cat Z 4) = 0 ∧ (0 ≤ s ∧ s ≤ 4) ∧ 0 ≤ ld ∧ ld ≤ 3 := by
  unfold lateE at h
  by_cases h1 : mayE (cat Z 4) = 0
  · rw [if_neg (by simpa using h1)] at h
    by_cases h2 : s < 0 ∨ 4 < s
    · rw [if_pos h2] at h; omega
    · rw [if_neg h2] at h
      by_cases h3 : ld < 0 ∨ 3 < ld
      · rw [if_pos h3] at h; omega
      · exact ⟨h1, by omega, by omega, by omega⟩
  · rw [if_pos h1] at h
    exact absurd h h1

theorem fit_len {Z : Nat → List Int} (hf : Fit 4 Z) (i : Nat) (hi : i < 4) : (Z i).length = (Z 0).length := by
  obtain ⟨-, -, -, e1, e2, e3⟩ := hf
  rcases (show i = 0 ∨ i = 1 ∨ i = 2 ∨ i = 3 by omega) with rfl | rfl | rfl | rfl
  · rfl
  · exact e1
  · exact e2
  · exact e3

theorem Best_any (a : Option Addr) (N c base : Nat) (Z : Nat → List Int) (s ld : Int) (w : World) (hT : Tab w) (h : NI w base (.slice a N c) N Z) :
    Calls Tryd.prog 5 #[.slice a N c, .int .i64 s, .int .i64 ld] w fun e w' => ∃ rn re, e = .returned (.tuple #[.int .i64 rn, .int .i64 re]) ∧ BestIs N Z s ld rn re ∧ Below w.heap.size w w' := by
  by_cases hf : Fit N Z
  · obtain rfl : N = 4 := hf.1
    obtain ⟨g, rfl, -, hc4, hcm⟩ := h.at0 (by omega)
    by_cases hE : lateE Z s ld = 0
    · obtain ⟨hM, hs, hl⟩ := late_zero hE
      obtain ⟨hback, U⟩ := un_of Z hM
      obtain ⟨s', rfl⟩ : ∃ s' : Nat, s = (s' : Int) := ⟨s.toNat, by omega⟩
      obtain ⟨l', rfl⟩ : ∃ l' : Nat, ld = (l' : Int) := ⟨ld.toNat, by omega⟩
      have hn1 := hf.2.1
      refine (Best_ok g c (Z 0).length (fun i => natL (Z i)) U hn1 hf.2.2.1 s' (by omega) l' (by omega) (fun i hi => by
        show (natL (Z i)).length = _
        rw [natL, List.length_map]
        exact fit_len hf i hi) hc4 hcm w hT (h.hs hf _ hback)).mono ?_
      rintro e w' ⟨m, hold, -, hP, rfl, hB⟩
      refine ⟨_, _, rfl, Or.inr (Or.inr ⟨hf, hE, rfl, ?_⟩), hB⟩
      rw [TrV, if_neg (by omega), Int.toNat_natCast]
      rw [bt_perm (winF (s' : Int)) _ _ _ _ _ hP]
    · refine (Best_late g c base Z s ld w h hf hE).mono ?_
      rintro e w' ⟨rfl, hB⟩
      exact ⟨_, _, rfl, Or.inr (Or.inl ⟨hf, hE, rfl, rfl⟩), hB⟩
  · refine (Best_unfit a N c base Z s ld w h hf).mono ?_
    rintro e w' ⟨rfl, hB⟩
    exact ⟨_, _, rfl, Or.inl ⟨hf, rfl, rfl⟩, hB⟩

end Go.Proofs.YtiihnlpoagnkhaaDoor
