/-
  What bridge.made answers. No conditions beyond those that each theorem bears.
-/
import Derived.Test.YtiihnlpoagnkhaaSc2
namespace Go.Proofs.Ytiihnlpoagnkhaa
open Go.RowKit

def bidN (l s d : Nat) : Nat := (l * trkN s + if s = 4 then 10 else 0) * 2 ^ d
def madeN (l s d : Nat) (v : Bool) : Nat := bidN l s d + 50 * d + (if 100 ≤ bidN l s d then eiN v 500 300 else 50) + (if l = 6 then eiN v 750 500 else if l = 7 then eiN v 1500 1000 else 0)

set_option maxHeartbeats 4000000 in
theorem made_any (l s d : Nat) (k : Int) (hl : 1 ≤ l) (hl7 : l ≤ 7) (hs : s ≤ 4) (hd : d ≤ 2) (v : Bool) (w : World) :
    Calls Try.prog 38 #[.agg (ctA l s d k), .bool v] w fun e w' => e = .returned (.int .i64 (madeN l s d v : Nat)) ∧ Below w.heap.size w w' := by
  have TR := hide (trickOf_any s)
  have E1 := hide (either_any v 500 300)
  have E2 := hide (either_any v 750 500)
  have E3 := hide (either_any v 1500 1000)
  have ht := trkN_le s
  have hm : l * trkN s ≤ 7 * 30 := Nat.mul_le_mul hl7 ht
  have hm6 : 6 ≤ l → 120 ≤ l * trkN s := fun h => by
    have h20 : 20 ≤ trkN s := by unfold trkN; split <;> omega
    exact Nat.mul_le_mul h h20
  have hc : (l : Int) * (trkN s : Nat) = ((l * trkN s : Nat) : Int) := by push_cast; rfl
  have l1 := eiN_le v 500 300 500 (by omega) (by omega)
  have l2 := eiN_le v 750 500 750 (by omega) (by omega)
  have l3 := eiN_le v 1500 1000 1500 (by omega) (by omega)
  generalize hM : madeN l s d v = M
  unfold madeN bidN at hM
  generalize l * trkN s = q at *
  generalize trkN s = x at *
  generalize eiN v 500 300 = y1 at *
  generalize eiN v 750 500 = y2 at *
  generalize eiN v 1500 1000 = y3 at *
  have HM := hide hM
  clear hM
  have HR : Hid (∀ x : Int, x = (M : Int) → Ending.returned (.int .i64 x) = .returned (.int .i64 (M : Int))) := hide (fun x h => by rw [h])
  have HR : Hid (∀ x : Int, x = (M : Int) → Ending.returned (.int .i64 x) = .returned (.int .i64 (M : Int))) := hide (fun x h => by rw [h])
  rcases (by omega : d = 0 ∨ d = 1 ∨ d = 2) with rfl | rfl | rfl
  · by_cases h4 : s = 4
    · subst h4
      by_cases h1 : 100 ≤ (q + 10) * 1
      · have h1i : (100 : Int) ≤ ((q : Int) + 10) * 1 := by omega
        have h1j : (100 : Int) ≤ (q : Int) + 10 := by omega
        rcases (by omega : l = 6 ∨ l = 7 ∨ l ≤ 5) with h6 | h6 | h6
        · subst h6
          have hM := HM.out
          rw [if_pos rfl] at hM
          rw [if_pos (by omega)] at hM
          rw [if_pos rfl] at hM
          have HM2 := hide hM
          clear hM HM
          go_enter Try.func38, Try.ntmps38
          go_wp2_with fail
          go_quiet ((go_at_call 50; exact (TR.out _).mono (fun _ _ ⟨he, hw⟩ => ⟨he, _, hw⟩)))
          go_wp2_with fail
          refine (E1.out _).mono ?_
          rintro e w1 ⟨rfl, hw⟩
          subst w1
          go_wp2_with fail
          refine (E2.out _).mono ?_
          rintro e w1 ⟨rfl, hw⟩
          subst w1
          go_wp2
          go_ret
          exact ⟨HR.out _ (by rw [← HM2.out]; go_num), ((Below.refl _ _).alloc (Nat.le_refl _) _).trans (drewN_below _ _ _)⟩
        · subst h6
          have hM := HM.out
          rw [if_pos rfl] at hM
          rw [if_pos (by omega)] at hM
          rw [if_neg (by omega), if_pos rfl] at hM
          have HM2 := hide hM
          clear hM HM
          go_enter Try.func38, Try.ntmps38
          go_wp2_with fail
          go_quiet ((go_at_call 50; exact (TR.out _).mono (fun _ _ ⟨he, hw⟩ => ⟨he, _, hw⟩)))
          go_wp2_with fail
          refine (E1.out _).mono ?_
          rintro e w1 ⟨rfl, hw⟩
          subst w1
          go_wp2_with fail
          refine (E3.out _).mono ?_
          rintro e w1 ⟨rfl, hw⟩
          subst w1
          go_wp2
          go_ret
          exact ⟨HR.out _ (by rw [← HM2.out]; go_num), ((Below.refl _ _).alloc (Nat.le_refl _) _).trans (drewN_below _ _ _)⟩
        · have b6 : ((l : Int) == 6) = false := by simp; omega
          have b7 : ((l : Int) == 7) = false := by simp; omega
          have hM := HM.out
          rw [if_pos rfl] at hM
          rw [if_pos (by omega)] at hM
          rw [if_neg (by omega), if_neg (by omega)] at hM
          have HM2 := hide hM
          clear hM HM
          go_enter Try.func38, Try.ntmps38
          go_wp2_with fail
          go_quiet ((go_at_call 50; exact (TR.out _).mono (fun _ _ ⟨he, hw⟩ => ⟨he, _, hw⟩)))
          go_wp2_with fail
          refine (E1.out _).mono ?_
          rintro e w1 ⟨rfl, hw⟩
          subst w1
          go_wp2
          go_ret
          exact ⟨HR.out _ (by rw [← HM2.out]; go_num), ((Below.refl _ _).alloc (Nat.le_refl _) _).trans (drewN_below _ _ _)⟩
      · have h1i : ¬ (100 : Int) ≤ ((q : Int) + 10) * 1 := by omega
        have h1j : ¬ (100 : Int) ≤ (q : Int) + 10 := by omega
        have h6 : l ≤ 5 := by omega
        have b6 : ((l : Int) == 6) = false := by simp; omega
        have b7 : ((l : Int) == 7) = false := by simp; omega
        have hM := HM.out
        rw [if_pos rfl] at hM
        rw [if_neg (by omega)] at hM
        rw [if_neg (by omega), if_neg (by omega)] at hM
        have HM2 := hide hM
        clear hM HM
        go_enter Try.func38, Try.ntmps38
        go_wp2_with fail
        go_quiet ((go_at_call 50; exact (TR.out _).mono (fun _ _ ⟨he, hw⟩ => ⟨he, _, hw⟩)))
        go_wp2
        go_ret
        exact ⟨HR.out _ (by rw [← HM2.out]; go_num), ((Below.refl _ _).alloc (Nat.le_refl _) _).trans (drewN_below _ _ _)⟩
    · have b4 : ((s : Int) == 4) = false := by simp; omega
      by_cases h1 : 100 ≤ q * 1
      · have h1i : (100 : Int) ≤ (q : Int) * 1 := by omega
        have h1j : (100 : Int) ≤ (q : Int) := by omega
        rcases (by omega : l = 6 ∨ l = 7 ∨ l ≤ 5) with h6 | h6 | h6
        · subst h6
          have hM := HM.out
          rw [if_neg h4] at hM
          rw [if_pos (by omega)] at hM
          rw [if_pos rfl] at hM
          have HM2 := hide hM
          clear hM HM
          go_enter Try.func38, Try.ntmps38
          go_wp2_with fail
          go_quiet ((go_at_call 50; exact (TR.out _).mono (fun _ _ ⟨he, hw⟩ => ⟨he, _, hw⟩)))
          go_wp2_with fail
          refine (E1.out _).mono ?_
          rintro e w1 ⟨rfl, hw⟩
          subst w1
          go_wp2_with fail
          refine (E2.out _).mono ?_
          rintro e w1 ⟨rfl, hw⟩
          subst w1
          go_wp2
          go_ret
          exact ⟨HR.out _ (by rw [← HM2.out]; go_num), ((Below.refl _ _).alloc (Nat.le_refl _) _).trans (drewN_below _ _ _)⟩
        · subst h6
          have hM := HM.out
          rw [if_neg h4] at hM
          rw [if_pos (by omega)] at hM
          rw [if_neg (by omega), if_pos rfl] at hM
          have HM2 := hide hM
          clear hM HM
          go_enter Try.func38, Try.ntmps38
          go_wp2_with fail
          go_quiet ((go_at_call 50; exact (TR.out _).mono (fun _ _ ⟨he, hw⟩ => ⟨he, _, hw⟩)))
          go_wp2_with fail
          refine (E1.out _).mono ?_
          rintro e w1 ⟨rfl, hw⟩
          subst w1
          go_wp2_with fail
          refine (E3.out _).mono ?_
          rintro e w1 ⟨rfl, hw⟩
          subst w1
          go_wp2
          go_ret
          exact ⟨HR.out _ (by rw [← HM2.out]; go_num), ((Below.refl _ _).alloc (Nat.le_refl _) _).trans (drewN_below _ _ _)⟩
        · have b6 : ((l : Int) == 6) = false := by simp; omega
          have b7 : ((l : Int) == 7) = false := by simp; omega
          have hM := HM.out
          rw [if_neg h4] at hM
          rw [if_pos (by omega)] at hM
          rw [if_neg (by omega), if_neg (by omega)] at hM
          have HM2 := hide hM
          clear hM HM
          go_enter Try.func38, Try.ntmps38
          go_wp2_with fail
          go_quiet ((go_at_call 50; exact (TR.out _).mono (fun _ _ ⟨he, hw⟩ => ⟨he, _, hw⟩)))
          go_wp2_with fail
          refine (E1.out _).mono ?_
          rintro e w1 ⟨rfl, hw⟩
          subst w1
          go_wp2
          go_ret
          exact ⟨HR.out _ (by rw [← HM2.out]; go_num), ((Below.refl _ _).alloc (Nat.le_refl _) _).trans (drewN_below _ _ _)⟩
      · have h1i : ¬ (100 : Int) ≤ (q : Int) * 1 := by omega
        have h1j : ¬ (100 : Int) ≤ (q : Int) := by omega
        have h6 : l ≤ 5 := by omega
        have b6 : ((l : Int) == 6) = false := by simp; omega
        have b7 : ((l : Int) == 7) = false := by simp; omega
        have hM := HM.out
        rw [if_neg h4] at hM
        rw [if_neg (by omega)] at hM
        rw [if_neg (by omega), if_neg (by omega)] at hM
        have HM2 := hide hM
        clear hM HM
        go_enter Try.func38, Try.ntmps38
        go_wp2_with fail
        go_quiet ((go_at_call 50; exact (TR.out _).mono (fun _ _ ⟨he, hw⟩ => ⟨he, _, hw⟩)))
        go_wp2
        go_ret
        exact ⟨HR.out _ (by rw [← HM2.out]; go_num), ((Below.refl _ _).alloc (Nat.le_refl _) _).trans (drewN_below _ _ _)⟩
  · by_cases h4 : s = 4
    · subst h4
      by_cases h1 : 100 ≤ (q + 10) * 2
      · have h1i : (100 : Int) ≤ ((q : Int) + 10) * 2 := by omega
        rcases (by omega : l = 6 ∨ l = 7 ∨ l ≤ 5) with h6 | h6 | h6
        · subst h6
          have hM := HM.out
          rw [if_pos rfl] at hM
          rw [if_pos (by omega)] at hM
          rw [if_pos rfl] at hM
          have HM2 := hide hM
          clear hM HM
          go_enter Try.func38, Try.ntmps38
          go_wp2_with fail
          go_quiet ((go_at_call 50; exact (TR.out _).mono (fun _ _ ⟨he, hw⟩ => ⟨he, _, hw⟩)))
          go_wp2_with fail
          refine (E1.out _).mono ?_
          rintro e w1 ⟨rfl, hw⟩
          subst w1
          go_wp2_with fail
          refine (E2.out _).mono ?_
          rintro e w1 ⟨rfl, hw⟩
          subst w1
          go_wp2
          go_ret
          exact ⟨HR.out _ (by rw [← HM2.out]; go_num), ((Below.refl _ _).alloc (Nat.le_refl _) _).trans (drewN_below _ _ _)⟩
        · subst h6
          have hM := HM.out
          rw [if_pos rfl] at hM
          rw [if_pos (by omega)] at hM
          rw [if_neg (by omega), if_pos rfl] at hM
          have HM2 := hide hM
          clear hM HM
          go_enter Try.func38, Try.ntmps38
          go_wp2_with fail
          go_quiet ((go_at_call 50; exact (TR.out _).mono (fun _ _ ⟨he, hw⟩ => ⟨he, _, hw⟩)))
          go_wp2_with fail
          refine (E1.out _).mono ?_
          rintro e w1 ⟨rfl, hw⟩
          subst w1
          go_wp2_with fail
          refine (E3.out _).mono ?_
          rintro e w1 ⟨rfl, hw⟩
          subst w1
          go_wp2
          go_ret
          exact ⟨HR.out _ (by rw [← HM2.out]; go_num), ((Below.refl _ _).alloc (Nat.le_refl _) _).trans (drewN_below _ _ _)⟩
        · have b6 : ((l : Int) == 6) = false := by simp; omega
          have b7 : ((l : Int) == 7) = false := by simp; omega
          have hM := HM.out
          rw [if_pos rfl] at hM
          rw [if_pos (by omega)] at hM
          rw [if_neg (by omega), if_neg (by omega)] at hM
          have HM2 := hide hM
          clear hM HM
          go_enter Try.func38, Try.ntmps38
          go_wp2_with fail
          go_quiet ((go_at_call 50; exact (TR.out _).mono (fun _ _ ⟨he, hw⟩ => ⟨he, _, hw⟩)))
          go_wp2_with fail
          refine (E1.out _).mono ?_
          rintro e w1 ⟨rfl, hw⟩
          subst w1
          go_wp2
          go_ret
          exact ⟨HR.out _ (by rw [← HM2.out]; go_num), ((Below.refl _ _).alloc (Nat.le_refl _) _).trans (drewN_below _ _ _)⟩
      · have h1i : ¬ (100 : Int) ≤ ((q : Int) + 10) * 2 := by omega
        have h6 : l ≤ 5 := by omega
        have b6 : ((l : Int) == 6) = false := by simp; omega
        have b7 : ((l : Int) == 7) = false := by simp; omega
        have hM := HM.out
        rw [if_pos rfl] at hM
        rw [if_neg (by omega)] at hM
        rw [if_neg (by omega), if_neg (by omega)] at hM
        have HM2 := hide hM
        clear hM HM
        go_enter Try.func38, Try.ntmps38
        go_wp2_with fail
        go_quiet ((go_at_call 50; exact (TR.out _).mono (fun _ _ ⟨he, hw⟩ => ⟨he, _, hw⟩)))
        go_wp2
        go_ret
        exact ⟨HR.out _ (by rw [← HM2.out]; go_num), ((Below.refl _ _).alloc (Nat.le_refl _) _).trans (drewN_below _ _ _)⟩
    · have b4 : ((s : Int) == 4) = false := by simp; omega
      by_cases h1 : 100 ≤ q * 2
      · have h1i : (100 : Int) ≤ (q : Int) * 2 := by omega
        rcases (by omega : l = 6 ∨ l = 7 ∨ l ≤ 5) with h6 | h6 | h6
        · subst h6
          have hM := HM.out
          rw [if_neg h4] at hM
          rw [if_pos (by omega)] at hM
          rw [if_pos rfl] at hM
          have HM2 := hide hM
          clear hM HM
          go_enter Try.func38, Try.ntmps38
          go_wp2_with fail
          go_quiet ((go_at_call 50; exact (TR.out _).mono (fun _ _ ⟨he, hw⟩ => ⟨he, _, hw⟩)))
          go_wp2_with fail
          refine (E1.out _).mono ?_
          rintro e w1 ⟨rfl, hw⟩
          subst w1
          go_wp2_with fail
          refine (E2.out _).mono ?_
          rintro e w1 ⟨rfl, hw⟩
          subst w1
          go_wp2
          go_ret
          exact ⟨HR.out _ (by rw [← HM2.out]; go_num), ((Below.refl _ _).alloc (Nat.le_refl _) _).trans (drewN_below _ _ _)⟩
        · subst h6
          have hM := HM.out
          rw [if_neg h4] at hM
          rw [if_pos (by omega)] at hM
          rw [if_neg (by omega), if_pos rfl] at hM
          have HM2 := hide hM
          clear hM HM
          go_enter Try.func38, Try.ntmps38
          go_wp2_with fail
          go_quiet ((go_at_call 50; exact (TR.out _).mono (fun _ _ ⟨he, hw⟩ => ⟨he, _, hw⟩)))
          go_wp2_with fail
          refine (E1.out _).mono ?_
          rintro e w1 ⟨rfl, hw⟩
          subst w1
          go_wp2_with fail
          refine (E3.out _).mono ?_
          rintro e w1 ⟨rfl, hw⟩
          subst w1
          go_wp2
          go_ret
          exact ⟨HR.out _ (by rw [← HM2.out]; go_num), ((Below.refl _ _).alloc (Nat.le_refl _) _).trans (drewN_below _ _ _)⟩
        · have b6 : ((l : Int) == 6) = false := by simp; omega
          have b7 : ((l : Int) == 7) = false := by simp; omega
          have hM := HM.out
          rw [if_neg h4] at hM
          rw [if_pos (by omega)] at hM
          rw [if_neg (by omega), if_neg (by omega)] at hM
          have HM2 := hide hM
          clear hM HM
          go_enter Try.func38, Try.ntmps38
          go_wp2_with fail
          go_quiet ((go_at_call 50; exact (TR.out _).mono (fun _ _ ⟨he, hw⟩ => ⟨he, _, hw⟩)))
          go_wp2_with fail
          refine (E1.out _).mono ?_
          rintro e w1 ⟨rfl, hw⟩
          subst w1
          go_wp2
          go_ret
          exact ⟨HR.out _ (by rw [← HM2.out]; go_num), ((Below.refl _ _).alloc (Nat.le_refl _) _).trans (drewN_below _ _ _)⟩
      · have h1i : ¬ (100 : Int) ≤ (q : Int) * 2 := by omega
        have h6 : l ≤ 5 := by omega
        have b6 : ((l : Int) == 6) = false := by simp; omega
        have b7 : ((l : Int) == 7) = false := by simp; omega
        have hM := HM.out
        rw [if_neg h4] at hM
        rw [if_neg (by omega)] at hM
        rw [if_neg (by omega), if_neg (by omega)] at hM
        have HM2 := hide hM
        clear hM HM
        go_enter Try.func38, Try.ntmps38
        go_wp2_with fail
        go_quiet ((go_at_call 50; exact (TR.out _).mono (fun _ _ ⟨he, hw⟩ => ⟨he, _, hw⟩)))
        go_wp2
        go_ret
        exact ⟨HR.out _ (by rw [← HM2.out]; go_num), ((Below.refl _ _).alloc (Nat.le_refl _) _).trans (drewN_below _ _ _)⟩
  · by_cases h4 : s = 4
    · subst h4
      by_cases h1 : 100 ≤ (q + 10) * 4
      · have h1i : (100 : Int) ≤ ((q : Int) + 10) * 4 := by omega
        rcases (by omega : l = 6 ∨ l = 7 ∨ l ≤ 5) with h6 | h6 | h6
        · subst h6
          have hM := HM.out
          rw [if_pos rfl] at hM
          rw [if_pos (by omega)] at hM
          rw [if_pos rfl] at hM
          have HM2 := hide hM
          clear hM HM
          go_enter Try.func38, Try.ntmps38
          go_wp2_with fail
          go_quiet ((go_at_call 50; exact (TR.out _).mono (fun _ _ ⟨he, hw⟩ => ⟨he, _, hw⟩)))
          go_wp2_with fail
          refine (E1.out _).mono ?_
          rintro e w1 ⟨rfl, hw⟩
          subst w1
          go_wp2_with fail
          refine (E2.out _).mono ?_
          rintro e w1 ⟨rfl, hw⟩
          subst w1
          go_wp2
          go_ret
          exact ⟨HR.out _ (by rw [← HM2.out]; go_num), ((Below.refl _ _).alloc (Nat.le_refl _) _).trans (drewN_below _ _ _)⟩
        · subst h6
          have hM := HM.out
          rw [if_pos rfl] at hM
          rw [if_pos (by omega)] at hM
          rw [if_neg (by omega), if_pos rfl] at hM
          have HM2 := hide hM
          clear hM HM
          go_enter Try.func38, Try.ntmps38
          go_wp2_with fail
          go_quiet ((go_at_call 50; exact (TR.out _).mono (fun _ _ ⟨he, hw⟩ => ⟨he, _, hw⟩)))
          go_wp2_with fail
          refine (E1.out _).mono ?_
          rintro e w1 ⟨rfl, hw⟩
          subst w1
          go_wp2_with fail
          refine (E3.out _).mono ?_
          rintro e w1 ⟨rfl, hw⟩
          subst w1
          go_wp2
          go_ret
          exact ⟨HR.out _ (by rw [← HM2.out]; go_num), ((Below.refl _ _).alloc (Nat.le_refl _) _).trans (drewN_below _ _ _)⟩
        · have b6 : ((l : Int) == 6) = false := by simp; omega
          have b7 : ((l : Int) == 7) = false := by simp; omega
          have hM := HM.out
          rw [if_pos rfl] at hM
          rw [if_pos (by omega)] at hM
          rw [if_neg (by omega), if_neg (by omega)] at hM
          have HM2 := hide hM
          clear hM HM
          go_enter Try.func38, Try.ntmps38
          go_wp2_with fail
          go_quiet ((go_at_call 50; exact (TR.out _).mono (fun _ _ ⟨he, hw⟩ => ⟨he, _, hw⟩)))
          go_wp2_with fail
          refine (E1.out _).mono ?_
          rintro e w1 ⟨rfl, hw⟩
          subst w1
          go_wp2
          go_ret
          exact ⟨HR.out _ (by rw [← HM2.out]; go_num), ((Below.refl _ _).alloc (Nat.le_refl _) _).trans (drewN_below _ _ _)⟩
      · have h1i : ¬ (100 : Int) ≤ ((q : Int) + 10) * 4 := by omega
        have h6 : l ≤ 5 := by omega
        have b6 : ((l : Int) == 6) = false := by simp; omega
        have b7 : ((l : Int) == 7) = false := by simp; omega
        have hM := HM.out
        rw [if_pos rfl] at hM
        rw [if_neg (by omega)] at hM
        rw [if_neg (by omega), if_neg (by omega)] at hM
        have HM2 := hide hM
        clear hM HM
        go_enter Try.func38, Try.ntmps38
        go_wp2_with fail
        go_quiet ((go_at_call 50; exact (TR.out _).mono (fun _ _ ⟨he, hw⟩ => ⟨he, _, hw⟩)))
        go_wp2
        go_ret
        exact ⟨HR.out _ (by rw [← HM2.out]; go_num), ((Below.refl _ _).alloc (Nat.le_refl _) _).trans (drewN_below _ _ _)⟩
    · have b4 : ((s : Int) == 4) = false := by simp; omega
      by_cases h1 : 100 ≤ q * 4
      · have h1i : (100 : Int) ≤ (q : Int) * 4 := by omega
        rcases (by omega : l = 6 ∨ l = 7 ∨ l ≤ 5) with h6 | h6 | h6
        · subst h6
          have hM := HM.out
          rw [if_neg h4] at hM
          rw [if_pos (by omega)] at hM
          rw [if_pos rfl] at hM
          have HM2 := hide hM
          clear hM HM
          go_enter Try.func38, Try.ntmps38
          go_wp2_with fail
          go_quiet ((go_at_call 50; exact (TR.out _).mono (fun _ _ ⟨he, hw⟩ => ⟨he, _, hw⟩)))
          go_wp2_with fail
          refine (E1.out _).mono ?_
          rintro e w1 ⟨rfl, hw⟩
          subst w1
          go_wp2_with fail
          refine (E2.out _).mono ?_
          rintro e w1 ⟨rfl, hw⟩
          subst w1
          go_wp2
          go_ret
          exact ⟨HR.out _ (by rw [← HM2.out]; go_num), ((Below.refl _ _).alloc (Nat.le_refl _) _).trans (drewN_below _ _ _)⟩
        · subst h6
          have hM := HM.out
          rw [if_neg h4] at hM
          rw [if_pos (by omega)] at hM
          rw [if_neg (by omega), if_pos rfl] at hM
          have HM2 := hide hM
          clear hM HM
          go_enter Try.func38, Try.ntmps38
          go_wp2_with fail
          go_quiet ((go_at_call 50; exact (TR.out _).mono (fun _ _ ⟨he, hw⟩ => ⟨he, _, hw⟩)))
          go_wp2_with fail
          refine (E1.out _).mono ?_
          rintro e w1 ⟨rfl, hw⟩
          subst w1
          go_wp2_with fail
          refine (E3.out _).mono ?_
          rintro e w1 ⟨rfl, hw⟩
          subst w1
          go_wp2
          go_ret
          exact ⟨HR.out _ (by rw [← HM2.out]; go_num), ((Below.refl _ _).alloc (Nat.le_refl _) _).trans (drewN_below _ _ _)⟩
        · have b6 : ((l : Int) == 6) = false := by simp; omega
          have b7 : ((l : Int) == 7) = false := by simp; omega
          have hM := HM.out
          rw [if_neg h4] at hM
          rw [if_pos (by omega)] at hM
          rw [if_neg (by omega), if_neg (by omega)] at hM
          have HM2 := hide hM
          clear hM HM
          go_enter Try.func38, Try.ntmps38
          go_wp2_with fail
          go_quiet ((go_at_call 50; exact (TR.out _).mono (fun _ _ ⟨he, hw⟩ => ⟨he, _, hw⟩)))
          go_wp2_with fail
          refine (E1.out _).mono ?_
          rintro e w1 ⟨rfl, hw⟩
          subst w1
          go_wp2
          go_ret
          exact ⟨HR.out _ (by rw [← HM2.out]; go_num), ((Below.refl _ _).alloc (Nat.le_refl _) _).trans (drewN_below _ _ _)⟩
      · have h1i : ¬ (100 : Int) ≤ (q : Int) * 4 := by omega
        have h6 : l ≤ 5 := by omega
        have b6 : ((l : Int) == 6) = false := by simp; omega
        have b7 : ((l : Int) == 7) = false := by simp; omega
        have hM := HM.out
        rw [if_neg h4] at hM
        rw [if_neg (by omega)] at hM
        rw [if_neg (by omega), if_neg (by omega)] at hM
        have HM2 := hide hM
        clear hM HM
        go_enter Try.func38, Try.ntmps38
        go_wp2_with fail
        go_quiet ((go_at_call 50; exact (TR.out _).mono (fun _ _ ⟨he, hw⟩ => ⟨he, _, hw⟩)))
        go_wp2
        go_ret
        exact ⟨HR.out _ (by rw [← HM2.out]; go_num), ((Below.refl _ _).alloc (Nat.le_refl _) _).trans (drewN_below _ _ _)⟩

end Go.Proofs.Ytiihnlpoagnkhaa
