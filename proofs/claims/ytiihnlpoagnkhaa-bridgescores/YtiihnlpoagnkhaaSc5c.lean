/-
  What the reference's ScoreOf answers. No conditions beyond those that each theorem bears.
-/
import Derived.Test.YtiihnlpoagnkhaaSc3
namespace Go.Proofs.Ytiihnlpoagnkhaa
open Go.RowKit

set_option maxRecDepth 100000 in
set_option maxHeartbeats 4000000 in
theorem ScoreOf_lo2false (l t : Nat) (s : Nat) (hs : s ≤ 1) (k : Int) (hl : 1 ≤ l) (hl7 : l ≤ 7) (ht : l + 6 ≤ t) (ht13 : t ≤ 13) (w : World) :
    Calls Try.prog 17 #[.agg (ctA l s (2 : Nat) k), .bool false, .int .i64 t] w fun e w' => e = .returned (.int .i64 ((madeN l s 2 false + (t - l - 6) * abvN s 2 false : Nat) : Int)) ∧ Below w.heap.size w w' := by
  have hlt : ¬ (t : Int) < (l : Int) + 6 := by omega
  have ho : (s : Int) ≤ 1 := by omega
  have b4 : ((s : Int) == 4) = false := by simp; omega
  have e1 : trkN s = 20 := by simp [trkN, hs]
  have e4 : ¬ s = 4 := by omega
  generalize hM : madeN l s 2 false + (t - l - 6) * abvN s 2 false = M
  have HR : Hid (∀ x : Int, x = (M : Int) → Ending.returned (.int .i64 x) = .returned (.int .i64 (M : Int))) := hide (fun x h => by rw [h])
  simp only [madeN, bidN, abvN, e1, eiN] at hM
  by_cases h1 : (20 * l + 0) * 4 < 100
  · have h1i : 4 * (20 * (l : Int)) < (100 : Int) := by omega
    have h6 : l ≤ 5 := by omega
    have b6 : ((l : Int) == 6) = false := by simp; omega
    have b7 : ((l : Int) == 7) = false := by simp; omega
    have n6 : ¬ l = 6 := by omega
    have n7 : ¬ l = 7 := by omega
    have HM : Hid (M = (20 * l + 0) * 4 + 100 + 50 + 0 + (t - l - 6) * 200) := hide (by
      rw [← hM]
      simp only [n6, n7, if_false]
      have hh : l * 20 = 20 * l := Nat.mul_comm _ _
      simp only [e4, if_false]
      rw [if_neg (by omega)]
      all_goals (simp <;> omega))
    clear hM
    go_enter Try.func17, Try.ntmps17
    go_wp2
    go_ret
    exact ⟨HR.out _ (by rw [HM.out]; go_num), (Below.refl _ _).alloc (Nat.le_refl _) _⟩
  · have h1i : ¬ 4 * (20 * (l : Int)) < (100 : Int) := by omega
    rcases (by omega : l = 6 ∨ l = 7 ∨ l ≤ 5) with h6 | h6 | h6
    · subst h6
      have HM : Hid (M = (20 * 6 + 0) * 4 + 100 + 300 + 500 + (t - 6 - 6) * 200) := hide (by
        rw [← hM]
        have hh : 6 * 20 = 20 * 6 := Nat.mul_comm _ _
        simp only [e4, if_false]
        rw [if_pos (by omega)]
        all_goals (simp <;> omega))
      clear hM
      go_enter Try.func17, Try.ntmps17
      go_wp2
      go_ret
      exact ⟨HR.out _ (by rw [HM.out]; go_num), (Below.refl _ _).alloc (Nat.le_refl _) _⟩
    · subst h6
      have HM : Hid (M = (20 * 7 + 0) * 4 + 100 + 300 + 1000 + (t - 7 - 6) * 200) := hide (by
        rw [← hM]
        have hh : 7 * 20 = 20 * 7 := Nat.mul_comm _ _
        simp only [e4, if_false]
        rw [if_pos (by omega)]
        all_goals (simp <;> omega))
      clear hM
      go_enter Try.func17, Try.ntmps17
      go_wp2
      go_ret
      exact ⟨HR.out _ (by rw [HM.out]; go_num), (Below.refl _ _).alloc (Nat.le_refl _) _⟩
    · have b6 : ((l : Int) == 6) = false := by simp; omega
      have b7 : ((l : Int) == 7) = false := by simp; omega
      have n6 : ¬ l = 6 := by omega
      have n7 : ¬ l = 7 := by omega
      have HM : Hid (M = (20 * l + 0) * 4 + 100 + 300 + 0 + (t - l - 6) * 200) := hide (by
        rw [← hM]
        simp only [n6, n7, if_false]
        have hh : l * 20 = 20 * l := Nat.mul_comm _ _
        simp only [e4, if_false]
        rw [if_pos (by omega)]
        all_goals (simp <;> omega))
      clear hM
      go_enter Try.func17, Try.ntmps17
      go_wp2
      go_ret
      exact ⟨HR.out _ (by rw [HM.out]; go_num), (Below.refl _ _).alloc (Nat.le_refl _) _⟩

set_option maxRecDepth 100000 in
set_option maxHeartbeats 4000000 in
theorem ScoreOf_hi2false (l t : Nat) (s : Nat) (hs : 2 ≤ s) (hs3 : s ≤ 3) (k : Int) (hl : 1 ≤ l) (hl7 : l ≤ 7) (ht : l + 6 ≤ t) (ht13 : t ≤ 13) (w : World) :
    Calls Try.prog 17 #[.agg (ctA l s (2 : Nat) k), .bool false, .int .i64 t] w fun e w' => e = .returned (.int .i64 ((madeN l s 2 false + (t - l - 6) * abvN s 2 false : Nat) : Int)) ∧ Below w.heap.size w w' := by
  have hlt : ¬ (t : Int) < (l : Int) + 6 := by omega
  have ho : ¬ (s : Int) ≤ 1 := by omega
  have b4 : ((s : Int) == 4) = false := by simp; omega
  have e1 : trkN s = 30 := by unfold trkN; rw [if_neg (by omega)]
  have e4 : ¬ s = 4 := by omega
  generalize hM : madeN l s 2 false + (t - l - 6) * abvN s 2 false = M
  have HR : Hid (∀ x : Int, x = (M : Int) → Ending.returned (.int .i64 x) = .returned (.int .i64 (M : Int))) := hide (fun x h => by rw [h])
  simp only [madeN, bidN, abvN, e1, eiN] at hM
  by_cases h1 : (30 * l + 0) * 4 < 100
  · exact absurd h1 (by omega)
  · have h1i : ¬ 4 * (30 * (l : Int)) < (100 : Int) := by omega
    rcases (by omega : l = 6 ∨ l = 7 ∨ l ≤ 5) with h6 | h6 | h6
    · subst h6
      have HM : Hid (M = (30 * 6 + 0) * 4 + 100 + 300 + 500 + (t - 6 - 6) * 200) := hide (by
        rw [← hM]
        have hh : 6 * 30 = 30 * 6 := Nat.mul_comm _ _
        simp only [e4, if_false]
        rw [if_pos (by omega)]
        all_goals (simp <;> omega))
      clear hM
      go_enter Try.func17, Try.ntmps17
      go_wp2
      go_ret
      exact ⟨HR.out _ (by rw [HM.out]; go_num), (Below.refl _ _).alloc (Nat.le_refl _) _⟩
    · subst h6
      have HM : Hid (M = (30 * 7 + 0) * 4 + 100 + 300 + 1000 + (t - 7 - 6) * 200) := hide (by
        rw [← hM]
        have hh : 7 * 30 = 30 * 7 := Nat.mul_comm _ _
        simp only [e4, if_false]
        rw [if_pos (by omega)]
        all_goals (simp <;> omega))
      clear hM
      go_enter Try.func17, Try.ntmps17
      go_wp2
      go_ret
      exact ⟨HR.out _ (by rw [HM.out]; go_num), (Below.refl _ _).alloc (Nat.le_refl _) _⟩
    · have b6 : ((l : Int) == 6) = false := by simp; omega
      have b7 : ((l : Int) == 7) = false := by simp; omega
      have n6 : ¬ l = 6 := by omega
      have n7 : ¬ l = 7 := by omega
      have HM : Hid (M = (30 * l + 0) * 4 + 100 + 300 + 0 + (t - l - 6) * 200) := hide (by
        rw [← hM]
        simp only [n6, n7, if_false]
        have hh : l * 30 = 30 * l := Nat.mul_comm _ _
        simp only [e4, if_false]
        rw [if_pos (by omega)]
        all_goals (simp <;> omega))
      clear hM
      go_enter Try.func17, Try.ntmps17
      go_wp2
      go_ret
      exact ⟨HR.out _ (by rw [HM.out]; go_num), (Below.refl _ _).alloc (Nat.le_refl _) _⟩

set_option maxRecDepth 100000 in
set_option maxHeartbeats 4000000 in
theorem ScoreOf_nt2false (l t : Nat)  (k : Int) (hl : 1 ≤ l) (hl7 : l ≤ 7) (ht : l + 6 ≤ t) (ht13 : t ≤ 13) (w : World) :
    Calls Try.prog 17 #[.agg (ctA l (4 : Nat) (2 : Nat) k), .bool false, .int .i64 t] w fun e w' => e = .returned (.int .i64 ((madeN l 4 2 false + (t - l - 6) * abvN 4 2 false : Nat) : Int)) ∧ Below w.heap.size w w' := by
  have hlt : ¬ (t : Int) < (l : Int) + 6 := by omega
  have e1 : trkN 4 = 30 := rfl
  generalize hM : madeN l 4 2 false + (t - l - 6) * abvN 4 2 false = M
  have HR : Hid (∀ x : Int, x = (M : Int) → Ending.returned (.int .i64 x) = .returned (.int .i64 (M : Int))) := hide (fun x h => by rw [h])
  simp only [madeN, bidN, abvN, e1, eiN] at hM
  by_cases h1 : (30 * l + 10) * 4 < 100
  · exact absurd h1 (by omega)
  · have h1i : ¬ 4 * (30 * (l : Int) + 10) < (100 : Int) := by omega
    rcases (by omega : l = 6 ∨ l = 7 ∨ l ≤ 5) with h6 | h6 | h6
    · subst h6
      have HM : Hid (M = (30 * 6 + 10) * 4 + 100 + 300 + 500 + (t - 6 - 6) * 200) := hide (by
        rw [← hM]
        have hh : 6 * 30 = 30 * 6 := Nat.mul_comm _ _
        simp only [if_true]
        rw [if_pos (by omega)]
        all_goals (simp <;> omega))
      clear hM
      go_enter Try.func17, Try.ntmps17
      go_wp2
      go_ret
      exact ⟨HR.out _ (by rw [HM.out]; go_num), (Below.refl _ _).alloc (Nat.le_refl _) _⟩
    · subst h6
      have HM : Hid (M = (30 * 7 + 10) * 4 + 100 + 300 + 1000 + (t - 7 - 6) * 200) := hide (by
        rw [← hM]
        have hh : 7 * 30 = 30 * 7 := Nat.mul_comm _ _
        simp only [if_true]
        rw [if_pos (by omega)]
        all_goals (simp <;> omega))
      clear hM
      go_enter Try.func17, Try.ntmps17
      go_wp2
      go_ret
      exact ⟨HR.out _ (by rw [HM.out]; go_num), (Below.refl _ _).alloc (Nat.le_refl _) _⟩
    · have b6 : ((l : Int) == 6) = false := by simp; omega
      have b7 : ((l : Int) == 7) = false := by simp; omega
      have n6 : ¬ l = 6 := by omega
      have n7 : ¬ l = 7 := by omega
      have HM : Hid (M = (30 * l + 10) * 4 + 100 + 300 + 0 + (t - l - 6) * 200) := hide (by
        rw [← hM]
        simp only [n6, n7, if_false]
        have hh : l * 30 = 30 * l := Nat.mul_comm _ _
        simp only [if_true]
        rw [if_pos (by omega)]
        all_goals (simp <;> omega))
      clear hM
      go_enter Try.func17, Try.ntmps17
      go_wp2
      go_ret
      exact ⟨HR.out _ (by rw [HM.out]; go_num), (Below.refl _ _).alloc (Nat.le_refl _) _⟩

set_option maxRecDepth 100000 in
set_option maxHeartbeats 4000000 in
theorem ScoreOf_lo2true (l t : Nat) (s : Nat) (hs : s ≤ 1) (k : Int) (hl : 1 ≤ l) (hl7 : l ≤ 7) (ht : l + 6 ≤ t) (ht13 : t ≤ 13) (w : World) :
    Calls Try.prog 17 #[.agg (ctA l s (2 : Nat) k), .bool true, .int .i64 t] w fun e w' => e = .returned (.int .i64 ((madeN l s 2 true + (t - l - 6) * abvN s 2 true : Nat) : Int)) ∧ Below w.heap.size w w' := by
  have hlt : ¬ (t : Int) < (l : Int) + 6 := by omega
  have ho : (s : Int) ≤ 1 := by omega
  have b4 : ((s : Int) == 4) = false := by simp; omega
  have e1 : trkN s = 20 := by simp [trkN, hs]
  have e4 : ¬ s = 4 := by omega
  generalize hM : madeN l s 2 true + (t - l - 6) * abvN s 2 true = M
  have HR : Hid (∀ x : Int, x = (M : Int) → Ending.returned (.int .i64 x) = .returned (.int .i64 (M : Int))) := hide (fun x h => by rw [h])
  simp only [madeN, bidN, abvN, e1, eiN] at hM
  by_cases h1 : (20 * l + 0) * 4 < 100
  · have h1i : 4 * (20 * (l : Int)) < (100 : Int) := by omega
    have h6 : l ≤ 5 := by omega
    have b6 : ((l : Int) == 6) = false := by simp; omega
    have b7 : ((l : Int) == 7) = false := by simp; omega
    have n6 : ¬ l = 6 := by omega
    have n7 : ¬ l = 7 := by omega
    have HM : Hid (M = (20 * l + 0) * 4 + 100 + 50 + 0 + (t - l - 6) * 400) := hide (by
      rw [← hM]
      simp only [n6, n7, if_false]
      have hh : l * 20 = 20 * l := Nat.mul_comm _ _
      simp only [e4, if_false]
      rw [if_neg (by omega)]
      all_goals (simp <;> omega))
    clear hM
    go_enter Try.func17, Try.ntmps17
    go_wp2
    go_ret
    exact ⟨HR.out _ (by rw [HM.out]; go_num), (Below.refl _ _).alloc (Nat.le_refl _) _⟩
  · have h1i : ¬ 4 * (20 * (l : Int)) < (100 : Int) := by omega
    rcases (by omega : l = 6 ∨ l = 7 ∨ l ≤ 5) with h6 | h6 | h6
    · subst h6
      have HM : Hid (M = (20 * 6 + 0) * 4 + 100 + 500 + 750 + (t - 6 - 6) * 400) := hide (by
        rw [← hM]
        have hh : 6 * 20 = 20 * 6 := Nat.mul_comm _ _
        simp only [e4, if_false]
        rw [if_pos (by omega)]
        all_goals (simp <;> omega))
      clear hM
      go_enter Try.func17, Try.ntmps17
      go_wp2
      go_ret
      exact ⟨HR.out _ (by rw [HM.out]; go_num), (Below.refl _ _).alloc (Nat.le_refl _) _⟩
    · subst h6
      have HM : Hid (M = (20 * 7 + 0) * 4 + 100 + 500 + 1500 + (t - 7 - 6) * 400) := hide (by
        rw [← hM]
        have hh : 7 * 20 = 20 * 7 := Nat.mul_comm _ _
        simp only [e4, if_false]
        rw [if_pos (by omega)]
        all_goals (simp <;> omega))
      clear hM
      go_enter Try.func17, Try.ntmps17
      go_wp2
      go_ret
      exact ⟨HR.out _ (by rw [HM.out]; go_num), (Below.refl _ _).alloc (Nat.le_refl _) _⟩
    · have b6 : ((l : Int) == 6) = false := by simp; omega
      have b7 : ((l : Int) == 7) = false := by simp; omega
      have n6 : ¬ l = 6 := by omega
      have n7 : ¬ l = 7 := by omega
      have HM : Hid (M = (20 * l + 0) * 4 + 100 + 500 + 0 + (t - l - 6) * 400) := hide (by
        rw [← hM]
        simp only [n6, n7, if_false]
        have hh : l * 20 = 20 * l := Nat.mul_comm _ _
        simp only [e4, if_false]
        rw [if_pos (by omega)]
        all_goals (simp <;> omega))
      clear hM
      go_enter Try.func17, Try.ntmps17
      go_wp2
      go_ret
      exact ⟨HR.out _ (by rw [HM.out]; go_num), (Below.refl _ _).alloc (Nat.le_refl _) _⟩

set_option maxRecDepth 100000 in
set_option maxHeartbeats 4000000 in
theorem ScoreOf_hi2true (l t : Nat) (s : Nat) (hs : 2 ≤ s) (hs3 : s ≤ 3) (k : Int) (hl : 1 ≤ l) (hl7 : l ≤ 7) (ht : l + 6 ≤ t) (ht13 : t ≤ 13) (w : World) :
    Calls Try.prog 17 #[.agg (ctA l s (2 : Nat) k), .bool true, .int .i64 t] w fun e w' => e = .returned (.int .i64 ((madeN l s 2 true + (t - l - 6) * abvN s 2 true : Nat) : Int)) ∧ Below w.heap.size w w' := by
  have hlt : ¬ (t : Int) < (l : Int) + 6 := by omega
  have ho : ¬ (s : Int) ≤ 1 := by omega
  have b4 : ((s : Int) == 4) = false := by simp; omega
  have e1 : trkN s = 30 := by unfold trkN; rw [if_neg (by omega)]
  have e4 : ¬ s = 4 := by omega
  generalize hM : madeN l s 2 true + (t - l - 6) * abvN s 2 true = M
  have HR : Hid (∀ x : Int, x = (M : Int) → Ending.returned (.int .i64 x) = .returned (.int .i64 (M : Int))) := hide (fun x h => by rw [h])
  simp only [madeN, bidN, abvN, e1, eiN] at hM
  by_cases h1 : (30 * l + 0) * 4 < 100
  · exact absurd h1 (by omega)
  · have h1i : ¬ 4 * (30 * (l : Int)) < (100 : Int) := by omega
    rcases (by omega : l = 6 ∨ l = 7 ∨ l ≤ 5) with h6 | h6 | h6
    · subst h6
      have HM : Hid (M = (30 * 6 + 0) * 4 + 100 + 500 + 750 + (t - 6 - 6) * 400) := hide (by
        rw [← hM]
        have hh : 6 * 30 = 30 * 6 := Nat.mul_comm _ _
        simp only [e4, if_false]
        rw [if_pos (by omega)]
        all_goals (simp <;> omega))
      clear hM
      go_enter Try.func17, Try.ntmps17
      go_wp2
      go_ret
      exact ⟨HR.out _ (by rw [HM.out]; go_num), (Below.refl _ _).alloc (Nat.le_refl _) _⟩
    · subst h6
      have HM : Hid (M = (30 * 7 + 0) * 4 + 100 + 500 + 1500 + (t - 7 - 6) * 400) := hide (by
        rw [← hM]
        have hh : 7 * 30 = 30 * 7 := Nat.mul_comm _ _
        simp only [e4, if_false]
        rw [if_pos (by omega)]
        all_goals (simp <;> omega))
      clear hM
      go_enter Try.func17, Try.ntmps17
      go_wp2
      go_ret
      exact ⟨HR.out _ (by rw [HM.out]; go_num), (Below.refl _ _).alloc (Nat.le_refl _) _⟩
    · have b6 : ((l : Int) == 6) = false := by simp; omega
      have b7 : ((l : Int) == 7) = false := by simp; omega
      have n6 : ¬ l = 6 := by omega
      have n7 : ¬ l = 7 := by omega
      have HM : Hid (M = (30 * l + 0) * 4 + 100 + 500 + 0 + (t - l - 6) * 400) := hide (by
        rw [← hM]
        simp only [n6, n7, if_false]
        have hh : l * 30 = 30 * l := Nat.mul_comm _ _
        simp only [e4, if_false]
        rw [if_pos (by omega)]
        all_goals (simp <;> omega))
      clear hM
      go_enter Try.func17, Try.ntmps17
      go_wp2
      go_ret
      exact ⟨HR.out _ (by rw [HM.out]; go_num), (Below.refl _ _).alloc (Nat.le_refl _) _⟩

set_option maxRecDepth 100000 in
set_option maxHeartbeats 4000000 in
theorem ScoreOf_nt2true (l t : Nat)  (k : Int) (hl : 1 ≤ l) (hl7 : l ≤ 7) (ht : l + 6 ≤ t) (ht13 : t ≤ 13) (w : World) :
    Calls Try.prog 17 #[.agg (ctA l (4 : Nat) (2 : Nat) k), .bool true, .int .i64 t] w fun e w' => e = .returned (.int .i64 ((madeN l 4 2 true + (t - l - 6) * abvN 4 2 true : Nat) : Int)) ∧ Below w.heap.size w w' := by
  have hlt : ¬ (t : Int) < (l : Int) + 6 := by omega
  have e1 : trkN 4 = 30 := rfl
  generalize hM : madeN l 4 2 true + (t - l - 6) * abvN 4 2 true = M
  have HR : Hid (∀ x : Int, x = (M : Int) → Ending.returned (.int .i64 x) = .returned (.int .i64 (M : Int))) := hide (fun x h => by rw [h])
  simp only [madeN, bidN, abvN, e1, eiN] at hM
  by_cases h1 : (30 * l + 10) * 4 < 100
  · exact absurd h1 (by omega)
  · have h1i : ¬ 4 * (30 * (l : Int) + 10) < (100 : Int) := by omega
    rcases (by omega : l = 6 ∨ l = 7 ∨ l ≤ 5) with h6 | h6 | h6
    · subst h6
      have HM : Hid (M = (30 * 6 + 10) * 4 + 100 + 500 + 750 + (t - 6 - 6) * 400) := hide (by
        rw [← hM]
        have hh : 6 * 30 = 30 * 6 := Nat.mul_comm _ _
        simp only [if_true]
        rw [if_pos (by omega)]
        all_goals (simp <;> omega))
      clear hM
      go_enter Try.func17, Try.ntmps17
      go_wp2
      go_ret
      exact ⟨HR.out _ (by rw [HM.out]; go_num), (Below.refl _ _).alloc (Nat.le_refl _) _⟩
    · subst h6
      have HM : Hid (M = (30 * 7 + 10) * 4 + 100 + 500 + 1500 + (t - 7 - 6) * 400) := hide (by
        rw [← hM]
        have hh : 7 * 30 = 30 * 7 := Nat.mul_comm _ _
        simp only [if_true]
        rw [if_pos (by omega)]
        all_goals (simp <;> omega))
      clear hM
      go_enter Try.func17, Try.ntmps17
      go_wp2
      go_ret
      exact ⟨HR.out _ (by rw [HM.out]; go_num), (Below.refl _ _).alloc (Nat.le_refl _) _⟩
    · have b6 : ((l : Int) == 6) = false := by simp; omega
      have b7 : ((l : Int) == 7) = false := by simp; omega
      have n6 : ¬ l = 6 := by omega
      have n7 : ¬ l = 7 := by omega
      have HM : Hid (M = (30 * l + 10) * 4 + 100 + 500 + 0 + (t - l - 6) * 400) := hide (by
        rw [← hM]
        simp only [n6, n7, if_false]
        have hh : l * 30 = 30 * l := Nat.mul_comm _ _
        simp only [if_true]
        rw [if_pos (by omega)]
        all_goals (simp <;> omega))
      clear hM
      go_enter Try.func17, Try.ntmps17
      go_wp2
      go_ret
      exact ⟨HR.out _ (by rw [HM.out]; go_num), (Below.refl _ _).alloc (Nat.le_refl _) _⟩

end Go.Proofs.Ytiihnlpoagnkhaa
