/-
  What bridge.isContract, trickAbove, made and the reference's ContractMay answer. No conditions beyond those that each theorem bears.
-/
import Derived.Test.YtiihnlpoagnkhaaSc1
namespace Go.Proofs.Ytiihnlpoagnkhaa
open Go.RowKit

/-- A contract's value. -/
abbrev ctA (l s d k : Int) : Array Value := #[.int .i64 l, .int .i64 s, .int .i64 d, .int .i64 k]

def abvN (s d : Nat) (v : Bool) : Nat := if d = 0 then trkN s else eiN v 200 100 * d

theorem trkN_le (s : Nat) : trkN s ≤ 30 := by unfold trkN; split <;> omega
theorem abvN_le (s d : Nat) (hd : d ≤ 2) (v : Bool) : abvN s d v ≤ 400 := by
  unfold abvN
  have := trkN_le s
  have := Nat.mul_le_mul (eiN_le v 200 100 200 (by omega) (by omega)) hd
  split <;> omega

set_option maxHeartbeats 1000000 in
theorem trickAbove_any (l k : Int) (s d : Nat) (hd : d ≤ 2) (v : Bool) (w : World) :
    Calls Try.prog 39 #[.agg (ctA l s d k), .bool v] w fun e w' => e = .returned (.int .i64 (abvN s d v : Nat)) ∧ Below w.heap.size w w' := by
  by_cases h0 : d = 0
  · subst h0
    have HF : Hid (abvN s 0 v = trkN s) := hide rfl
    have TR := hide (trickOf_any s)
    go_enter Try.func39, Try.ntmps39
    go_wp2_with fail
    refine (TR.out _).mono ?_
    rintro e w1 ⟨rfl, hw⟩
    subst w1
    go_wp2
    go_ret
    exact ⟨by rw [HF.out]; rfl, (Below.refl _ _).alloc (Nat.le_refl _) _⟩
  · have b0 : ((d : Int) == 0) = false := by simp; omega
    have HF : Hid (abvN s d v = eiN v 200 100 * d) := hide (by rw [abvN, if_neg h0])
    have EI := hide (either_any v 200 100)
    have hE := eiN_le v 200 100 200 (by omega) (by omega)
    have hm : eiN v 200 100 * d ≤ 200 * 2 := Nat.mul_le_mul hE hd
    have hc : (eiN v 200 100 : Int) * (d : Int) = ((eiN v 200 100 * d : Nat) : Int) := by push_cast; rfl
    clear h0
    generalize eiN v 200 100 * d = q at *
    generalize eiN v 200 100 = x at *
    go_enter Try.func39, Try.ntmps39
    go_wp2_with fail
    go_quiet ((go_at_call 48; exact (EI.out _).mono (fun _ _ ⟨he, hw⟩ => ⟨he, _, hw⟩)))
    go_wp2
    go_ret
    exact ⟨by rw [HF.out]; go_num, ((Below.refl _ _).alloc (Nat.le_refl _) _).trans (drewN_below _ _ _)⟩

/-- A contract that may be. -/
def isCt (l s d k : Int) : Bool := decide (1 ≤ l ∧ l ≤ 7 ∧ (0 ≤ s ∧ s < 5) ∧ 0 ≤ d ∧ d ≤ 2 ∧ 0 ≤ k ∧ k < 4)

set_option maxHeartbeats 2000000 in
theorem isContract_any (l s d k : Int) (w : World) : Calls Try.prog 36 #[.agg (ctA l s d k)] w fun e w' => e = .returned (.bool (isCt l s d k)) ∧ Below w.heap.size w w' := by
  generalize hB : isCt l s d k = B
  unfold isCt at hB
  have IS := hide (isStrain_any s)
  by_cases h0 : 1 ≤ l
  rotate_left
  · have d0 : decide (1 ≤ l) = false := by simp; omega
    obtain rfl : B = false := by rw [← hB]; simp; omega
    clear hB
    go_enter Try.func36, Try.ntmps36
    go_wp2
    go_ret
    exact ⟨rfl, (Below.refl _ _).alloc (Nat.le_refl _) _⟩
  have d0 : decide (1 ≤ l) = true := by simp; omega
  by_cases h1 : l ≤ 7
  rotate_left
  · have d1 : decide (l ≤ 7) = false := by simp; omega
    obtain rfl : B = false := by rw [← hB]; simp; omega
    clear hB
    go_enter Try.func36, Try.ntmps36
    go_wp2
    go_ret
    exact ⟨rfl, (Below.refl _ _).alloc (Nat.le_refl _) _⟩
  have d1 : decide (l ≤ 7) = true := by simp; omega
  by_cases h2 : 0 ≤ s ∧ s < 5
  rotate_left
  · have dS : decide (0 ≤ s ∧ s < 5) = false := by simp; omega
    obtain rfl : B = false := by rw [← hB]; simp; omega
    clear hB
    rw [dS] at IS
    go_enter Try.func36, Try.ntmps36
    go_wp2_with fail
    refine (IS.out _).mono ?_
    rintro e w1 ⟨rfl, hw⟩
    subst w1
    go_wp2
    go_ret
    exact ⟨rfl, (Below.refl _ _).alloc (Nat.le_refl _) _⟩
  have dS : decide (0 ≤ s ∧ s < 5) = true := by simp; omega
  by_cases h3 : 0 ≤ d
  rotate_left
  · have d3 : decide (0 ≤ d) = false := by simp; omega
    obtain rfl : B = false := by rw [← hB]; simp; omega
    clear hB
    rw [dS] at IS
    go_enter Try.func36, Try.ntmps36
    go_wp2_with fail
    refine (IS.out _).mono ?_
    rintro e w1 ⟨rfl, hw⟩
    subst w1
    go_wp2
    go_ret
    exact ⟨rfl, (Below.refl _ _).alloc (Nat.le_refl _) _⟩
  have d3 : decide (0 ≤ d) = true := by simp; omega
  by_cases h4 : d ≤ 2
  rotate_left
  · have d4 : decide (d ≤ 2) = false := by simp; omega
    obtain rfl : B = false := by rw [← hB]; simp; omega
    clear hB
    rw [dS] at IS
    go_enter Try.func36, Try.ntmps36
    go_wp2_with fail
    refine (IS.out _).mono ?_
    rintro e w1 ⟨rfl, hw⟩
    subst w1
    go_wp2
    go_ret
    exact ⟨rfl, (Below.refl _ _).alloc (Nat.le_refl _) _⟩
  have d4 : decide (d ≤ 2) = true := by simp; omega
  by_cases h5 : 0 ≤ k
  rotate_left
  · have d5 : decide (0 ≤ k) = false := by simp; omega
    obtain rfl : B = false := by rw [← hB]; simp; omega
    clear hB
    rw [dS] at IS
    go_enter Try.func36, Try.ntmps36
    go_wp2_with fail
    refine (IS.out _).mono ?_
    rintro e w1 ⟨rfl, hw⟩
    subst w1
    go_wp2
    go_ret
    exact ⟨rfl, (Below.refl _ _).alloc (Nat.le_refl _) _⟩
  have d5 : decide (0 ≤ k) = true := by simp; omega
  by_cases h6 : k < 4
  rotate_left
  · have d6 : decide (k < 4) = false := by simp; omega
    obtain rfl : B = false := by rw [← hB]; simp; omega
    clear hB
    rw [dS] at IS
    go_enter Try.func36, Try.ntmps36
    go_wp2_with fail
    refine (IS.out _).mono ?_
    rintro e w1 ⟨rfl, hw⟩
    subst w1
    go_wp2
    go_ret
    exact ⟨rfl, (Below.refl _ _).alloc (Nat.le_refl _) _⟩
  have d6 : decide (k < 4) = true := by simp; omega
  obtain rfl : B = true := by rw [← hB]; simp; omega
  clear hB
  rw [dS] at IS
  go_enter Try.func36, Try.ntmps36
  go_wp2_with fail
  refine (IS.out _).mono ?_
  rintro e w1 ⟨rfl, hw⟩
  subst w1
  go_wp2
  go_ret
  exact ⟨rfl, (Below.refl _ _).alloc (Nat.le_refl _) _⟩

set_option maxHeartbeats 2000000 in
theorem ContractMay_any (l s d k t : Int) (w : World) : Calls Try.prog 16 #[.agg (ctA l s d k), .int .i64 t] w fun e w' => e = .returned (.bool (isCt l s d k && decide (0 ≤ t ∧ t ≤ 13))) ∧ Below w.heap.size w w' := by
  generalize hB : (isCt l s d k && decide (0 ≤ t ∧ t ≤ 13)) = B
  unfold isCt at hB
  have W0 := hide (within_any l 1 7)
  have W1 := hide (within_any s 0 4)
  have W2 := hide (within_any d 0 2)
  have W3 := hide (within_any k 0 3)
  have W4 := hide (within_any t 0 13)
  by_cases h0 : 1 ≤ l ∧ l ≤ 7
  rotate_left
  · have d0 : decide (1 ≤ l ∧ l ≤ 7) = false := by simp; omega
    obtain rfl : B = false := by rw [← hB]; simp; omega
    clear hB
    go_enter Try.func16, Try.ntmps16
    go_wp2_with fail
    refine (W0.out _).mono ?_
    rintro e w1 ⟨rfl, hw⟩
    subst w1
    rw [d0]
    go_wp2
    go_ret
    exact ⟨rfl, (Below.refl _ _).alloc (Nat.le_refl _) _⟩
  have d0 : decide (1 ≤ l ∧ l ≤ 7) = true := by simp; omega
  by_cases h1 : 0 ≤ s ∧ s ≤ 4
  rotate_left
  · have d1 : decide (0 ≤ s ∧ s ≤ 4) = false := by simp; omega
    obtain rfl : B = false := by rw [← hB]; simp; omega
    clear hB
    go_enter Try.func16, Try.ntmps16
    go_wp2_with fail
    refine (W0.out _).mono ?_
    rintro e w1 ⟨rfl, hw⟩
    subst w1
    rw [d0]
    go_wp2_with fail
    refine (W1.out _).mono ?_
    rintro e w1 ⟨rfl, hw⟩
    subst w1
    rw [d1]
    go_wp2
    go_ret
    exact ⟨rfl, (Below.refl _ _).alloc (Nat.le_refl _) _⟩
  have d1 : decide (0 ≤ s ∧ s ≤ 4) = true := by simp; omega
  by_cases h2 : 0 ≤ d ∧ d ≤ 2
  rotate_left
  · have d2 : decide (0 ≤ d ∧ d ≤ 2) = false := by simp; omega
    obtain rfl : B = false := by rw [← hB]; simp; omega
    clear hB
    go_enter Try.func16, Try.ntmps16
    go_wp2_with fail
    refine (W0.out _).mono ?_
    rintro e w1 ⟨rfl, hw⟩
    subst w1
    rw [d0]
    go_wp2_with fail
    refine (W1.out _).mono ?_
    rintro e w1 ⟨rfl, hw⟩
    subst w1
    rw [d1]
    go_wp2_with fail
    refine (W2.out _).mono ?_
    rintro e w1 ⟨rfl, hw⟩
    subst w1
    rw [d2]
    go_wp2
    go_ret
    exact ⟨rfl, (Below.refl _ _).alloc (Nat.le_refl _) _⟩
  have d2 : decide (0 ≤ d ∧ d ≤ 2) = true := by simp; omega
  by_cases h3 : 0 ≤ k ∧ k ≤ 3
  rotate_left
  · have d3 : decide (0 ≤ k ∧ k ≤ 3) = false := by simp; omega
    obtain rfl : B = false := by rw [← hB]; simp; omega
    clear hB
    go_enter Try.func16, Try.ntmps16
    go_wp2_with fail
    refine (W0.out _).mono ?_
    rintro e w1 ⟨rfl, hw⟩
    subst w1
    rw [d0]
    go_wp2_with fail
    refine (W1.out _).mono ?_
    rintro e w1 ⟨rfl, hw⟩
    subst w1
    rw [d1]
    go_wp2_with fail
    refine (W2.out _).mono ?_
    rintro e w1 ⟨rfl, hw⟩
    subst w1
    rw [d2]
    go_wp2_with fail
    refine (W3.out _).mono ?_
    rintro e w1 ⟨rfl, hw⟩
    subst w1
    rw [d3]
    go_wp2
    go_ret
    exact ⟨rfl, (Below.refl _ _).alloc (Nat.le_refl _) _⟩
  have d3 : decide (0 ≤ k ∧ k ≤ 3) = true := by simp; omega
  by_cases h4 : 0 ≤ t ∧ t ≤ 13
  rotate_left
  · have d4 : decide (0 ≤ t ∧ t ≤ 13) = false := by simp; omega
    obtain rfl : B = false := by rw [← hB]; simp; omega
    clear hB
    go_enter Try.func16, Try.ntmps16
    go_wp2_with fail
    refine (W0.out _).mono ?_
    rintro e w1 ⟨rfl, hw⟩
    subst w1
    rw [d0]
    go_wp2_with fail
    refine (W1.out _).mono ?_
    rintro e w1 ⟨rfl, hw⟩
    subst w1
    rw [d1]
    go_wp2_with fail
    refine (W2.out _).mono ?_
    rintro e w1 ⟨rfl, hw⟩
    subst w1
    rw [d2]
    go_wp2_with fail
    refine (W3.out _).mono ?_
    rintro e w1 ⟨rfl, hw⟩
    subst w1
    rw [d3]
    go_wp2_with fail
    refine (W4.out _).mono ?_
    rintro e w1 ⟨rfl, hw⟩
    subst w1
    rw [d4]
    go_wp2
    go_ret
    exact ⟨rfl, (Below.refl _ _).alloc (Nat.le_refl _) _⟩
  have d4 : decide (0 ≤ t ∧ t ≤ 13) = true := by simp; omega
  obtain rfl : B = true := by rw [← hB]; simp; omega
  clear hB
  go_enter Try.func16, Try.ntmps16
  go_wp2_with fail
  refine (W0.out _).mono ?_
  rintro e w1 ⟨rfl, hw⟩
  subst w1
  rw [d0]
  go_wp2_with fail
  refine (W1.out _).mono ?_
  rintro e w1 ⟨rfl, hw⟩
  subst w1
  rw [d1]
  go_wp2_with fail
  refine (W2.out _).mono ?_
  rintro e w1 ⟨rfl, hw⟩
  subst w1
  rw [d2]
  go_wp2_with fail
  refine (W3.out _).mono ?_
  rintro e w1 ⟨rfl, hw⟩
  subst w1
  rw [d3]
  go_wp2_with fail
  refine (W4.out _).mono ?_
  rintro e w1 ⟨rfl, hw⟩
  subst w1
  rw [d4]
  go_wp2
  go_ret
  exact ⟨rfl, (Below.refl _ _).alloc (Nat.le_refl _) _⟩

end Go.Proofs.Ytiihnlpoagnkhaa
