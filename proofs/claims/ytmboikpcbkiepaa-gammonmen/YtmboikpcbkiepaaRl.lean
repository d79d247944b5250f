/-
  What gammon.Rolls refuses. No conditions beyond those that each theorem bears.
-/
import Derived.Test.YtmboikpcbkiepaaRm
import Derived.Test.YtmboikpcbkiepaaShelf
namespace Go.Proofs.Ytmboikpcbkiepaa
open Go.RowKit Go.Shelf Go.Lib

set_option maxHeartbeats 400000 in
theorem neg_call (x : Int) (W : World) : Calls Try.prog 46 #[.int .i64 x] W fun e w' => e = .returned (.bool (decide (x < 0))) ∧ w' = W := by
  by_cases h : x < 0
  · rw [show decide (x < 0) = true by simpa using h]
    go_enter Try.func46, Try.ntmps46
    go_wp2
    go_ret
    exact ⟨rfl, rfl⟩
  · rw [show decide (x < 0) = false by simpa using h]
    go_enter Try.func46, Try.ntmps46
    go_wp2
    go_ret
    exact ⟨rfl, rfl⟩

theorem neg_gives (x : Int) (W : World) : FnGives Try.prog 46 #[] #[Value.int .i64 x] (.bool (decide (x < 0))) W := by
  show Calls Try.prog 46 #[.int .i64 x] W _
  exact (neg_call x W).mono fun _ _ ⟨he, hw⟩ => ⟨he, 0, hw⟩

theorem anyNeg_any (b off n c : Nat) (L : List Int) (w : World) (h : Rd w (some ⟨b, off, none⟩) n c L) :
    Calls Try.prog 45 #[.slice (some ⟨b, off, none⟩) n c, .func (.func 46) #[] #[]] w fun e w' => e = .returned (.bool (L.any (fun x => decide (x < 0)))) ∧ ∃ q, w' = w.drewN q := by
  have hl := h.len
  have hm := h.max
  have hc := h.cap
  unfold maxLen at hm
  have := Try.slices_ContainsFunc (Value.int .i64) (fun x : Int => decide (x < 0)) 46 #[] (enters_of Try.func46 (by kernel_rfl) rfl) b off n c L w (fun W2 x _ => neg_gives x W2) (by omega) (by omega) (fun j hj => by
    rw [(h.cell (i := j) (by omega)).2]
    simp [hj, List.getD])
  rw [List.take_of_length_le (by omega)] at this
  exact this

set_option maxRecDepth 100000 in
set_option maxHeartbeats 2000000 in
theorem Rolls_no (a : Option Addr) (n c : Nat) (L : List Int) (w : World) (h : Rd w a n c L) (hE : rmE L ≠ 0) :
    Calls Try.prog 17 #[.slice a n c] w fun e w' => e = .returned (.tuple #[.int .i64 0, .int .i64 0, .int .i64 (rmE L)]) ∧ ∃ q, w' = w.drewN q := by
  have hLl := h.len
  have hcm := h.max
  have hcn := h.cap
  unfold maxLen at hcm
  have hn0 : n ≠ 0 := by
    intro e
    have : L = [] := List.eq_nil_of_length_eq_zero (by omega)
    subst this
    exact hE (by decide)
  obtain ⟨b, off, rfl, hcl⟩ := h.cells (by omega)
  have AN := hide (anyNeg_any b off n c L w h)
  obtain ⟨E, hE'⟩ : ∃ E, rmE L = E := ⟨_, rfl⟩
  rw [hE'] at hE ⊢
  unfold rmE at hE'
  rw [hLl] at hE'
  clear hcl
  by_cases h6 : 6 < n
  · have h6' : (6 : Int) < (n : Int) := by omega
    rw [if_pos h6] at hE'
    subst hE'
    clear h hLl AN hE
    go_enter Try.func17, Try.ntmps17
    go_wp2
    go_ret3
    exact ⟨rfl, 0, rfl⟩
  · have h6' : ¬ (6 : Int) < (n : Int) := by omega
    rw [if_neg h6] at hE'
    by_cases hN : L.any (fun x => decide (x < 0)) = true
    · rw [if_pos hN] at hE'
      subst hE'
      rw [hN] at AN
      clear h hLl hE hN
      go_enter Try.func17, Try.ntmps17
      go_wp2_with fail
      refine AN.out.mono ?_
      rintro e w1 ⟨rfl, q, rfl⟩
      go_wp2
      go_ret3
      exact ⟨rfl, q, rfl⟩
    · rw [if_neg hN] at hE'
      have hall : ∀ z ∈ L, 0 ≤ z := by
        intro z hz
        have h1 : ¬ z < 0 := fun hz0 => hN (List.any_eq_true.2 ⟨z, hz, by simpa using hz0⟩)
        omega
      have hN' : L.any (fun x => decide (x < 0)) = false := by simpa using hN
      rw [hN'] at AN
      have h3 : 3 < L.sum := by
        by_cases h3 : 3 < L.sum
        · exact h3
        · rw [if_neg h3] at hE'
          exact absurd hE'.symm hE
      rw [if_pos h3] at hE'
      subst hE'
      have TM := hide (fun q => tooMany_any (some ⟨b, off, none⟩) n c L 3 (by omega) (w.drewN q) (h.mono (drewN_below _ _ _)) hall (by omega))
      rw [show tmB 3 L = true by simpa [tmB] using h3] at TM
      clear h hLl hE hN hN' hall h3
      go_enter Try.func17, Try.ntmps17
      go_wp2_with fail
      refine AN.out.mono ?_
      rintro e w1 ⟨rfl, q, rfl⟩
      have TQ := hide (TM.out q)
      clear TM AN
      generalize hw1 : w.drewN q = w1 at *
      go_wp2_with fail
      refine TQ.out.mono ?_
      rintro e w2 ⟨rfl, hw⟩
      subst w2
      go_wp2
      go_ret3
      exact ⟨rfl, q, hw1.symm⟩

end Go.Proofs.Ytmboikpcbkiepaa
