/-
  What the reference's ScoreOf answers. No conditions beyond those that each theorem bears.
-/
import Derived.Test.YtiihnlpoagnkhaaSc3
namespace Go.Proofs.Ytiihnlpoagnkhaa
open Go.RowKit

theorem failN_le (j d : Nat) (hj : j ≤ 13) (v : Bool) (hd : d ≤ 2 := by omega) : failN j d v ≤ 7800 := by
  unfold failN
  have h1 := Nat.mul_le_mul hj (eiN_le v 100 50 100 (by omega) (by omega))
  have h2 := lossSum_le v j
  have h3 := Nat.mul_le_mul (show lossSum v j ≤ 3900 by omega) hd
  split <;> omega

theorem failN_succ (j d : Nat) (v : Bool) (hd : d ≠ 0) : failN (j + 1) d v = failN j d v + lossN j v * d := by
  simp [failN, hd, lossSum, Nat.add_mul]
theorem failN0_succ (j : Nat) (v : Bool) : failN (j + 1) 0 v = failN j 0 v + eiN v 100 50 := by
  simp [failN, Nat.add_mul]
theorem loss_a (j : Nat) (h : ¬ j = 0) : lossN j true = 300 := by
  unfold lossN eiN; rw [if_neg h]; split <;> rfl
theorem loss_b (j : Nat) (h : ¬ j = 0) (h3 : j ≤ 2) : lossN j false = 200 := by
  unfold lossN eiN; rw [if_neg h, if_pos h3]; rfl
theorem loss_c (j : Nat) (h3 : ¬ j ≤ 2) : lossN j false = 300 := by
  unfold lossN; rw [if_neg (by omega), if_neg h3]

set_option maxRecDepth 100000 in
set_option maxHeartbeats 4000000 in
theorem ScoreOf_fail0false (l s t : Nat) (k : Int) (hl : 1 ≤ l) (hl7 : l ≤ 7) (ht : t < l + 6) (w : World) :
    Calls Try.prog 17 #[.agg (ctA l s (0 : Nat) k), .bool false, .int .i64 t] w fun e w' => e = .returned (.int .i64 (-(failN (l + 6 - t) 0 false : Nat))) ∧ Below w.heap.size w w' := by
  have hlt : (t : Int) < (l : Int) + 6 := by omega
  obtain ⟨f, hf⟩ : ∃ f, l + 6 - t = f := ⟨_, rfl⟩
  have hfi : (l : Int) + 6 - (t : Int) = (f : Int) := by omega
  have hf13 : f ≤ 13 := by omega
  rw [hf]
  clear hf
  go_enter Try.func17, Try.ntmps17
  go_wp2
  go_loop [9, 10] (fun n i => ∃ j : Nat, j ≤ f ∧ i = .int .i64 ((j : Int) + 1) ∧ n = .int .i64 (failN j 0 false : Nat)) (fun _ i => f + 1 - (intOf i).toNat)
  case atStart => exact ⟨0, by omega, rfl, rfl⟩
  case round =>
    obtain ⟨j, hj, rfl, rfl⟩ := hrel
    have hb := failN_le j 0 (by omega) false
    by_cases hjf : j < f
    · have hjf' : (j : Int) + 1 ≤ (f : Int) := by omega
      have hS : Hid (failN (j + 1) 0 false = failN j 0 false + 50) := hide (failN0_succ j false)
      obtain ⟨x, hx⟩ : ∃ x, failN j 0 false = x := ⟨_, rfl⟩
      rw [hx] at hb hS ⊢
      clear hx
      go_wp2
      go_round
      case rel => exact ⟨j + 1, by omega, by go_num, by rw [hS.out]; go_num⟩
      case measure => simp [intOf]; omega
    · obtain rfl : j = f := by omega
      have hjf' : ¬ (j : Int) + 1 ≤ (j : Int) := by omega
      obtain ⟨x, hx⟩ : ∃ x, failN j 0 false = x := ⟨_, rfl⟩
      have HX := hide hx
      rw [hx] at hb ⊢
      clear hx
      go_wp2
      go_ret
      exact ⟨by rw [HX.out]; go_num, (Below.refl _ _).alloc (Nat.le_refl _) _⟩

set_option maxRecDepth 100000 in
set_option maxHeartbeats 4000000 in
theorem ScoreOf_fail0true (l s t : Nat) (k : Int) (hl : 1 ≤ l) (hl7 : l ≤ 7) (ht : t < l + 6) (w : World) :
    Calls Try.prog 17 #[.agg (ctA l s (0 : Nat) k), .bool true, .int .i64 t] w fun e w' => e = .returned (.int .i64 (-(failN (l + 6 - t) 0 true : Nat))) ∧ Below w.heap.size w w' := by
  have hlt : (t : Int) < (l : Int) + 6 := by omega
  obtain ⟨f, hf⟩ : ∃ f, l + 6 - t = f := ⟨_, rfl⟩
  have hfi : (l : Int) + 6 - (t : Int) = (f : Int) := by omega
  have hf13 : f ≤ 13 := by omega
  rw [hf]
  clear hf
  go_enter Try.func17, Try.ntmps17
  go_wp2
  go_loop [9, 10] (fun n i => ∃ j : Nat, j ≤ f ∧ i = .int .i64 ((j : Int) + 1) ∧ n = .int .i64 (failN j 0 true : Nat)) (fun _ i => f + 1 - (intOf i).toNat)
  case atStart => exact ⟨0, by omega, rfl, rfl⟩
  case round =>
    obtain ⟨j, hj, rfl, rfl⟩ := hrel
    have hb := failN_le j 0 (by omega) true
    by_cases hjf : j < f
    · have hjf' : (j : Int) + 1 ≤ (f : Int) := by omega
      have hS : Hid (failN (j + 1) 0 true = failN j 0 true + 100) := hide (failN0_succ j true)
      obtain ⟨x, hx⟩ : ∃ x, failN j 0 true = x := ⟨_, rfl⟩
      rw [hx] at hb hS ⊢
      clear hx
      go_wp2
      go_round
      case rel => exact ⟨j + 1, by omega, by go_num, by rw [hS.out]; go_num⟩
      case measure => simp [intOf]; omega
    · obtain rfl : j = f := by omega
      have hjf' : ¬ (j : Int) + 1 ≤ (j : Int) := by omega
      obtain ⟨x, hx⟩ : ∃ x, failN j 0 true = x := ⟨_, rfl⟩
      have HX := hide hx
      rw [hx] at hb ⊢
      clear hx
      go_wp2
      go_ret
      exact ⟨by rw [HX.out]; go_num, (Below.refl _ _).alloc (Nat.le_refl _) _⟩

set_option maxRecDepth 100000 in
set_option maxHeartbeats 4000000 in
theorem ScoreOf_fail1false (l s t : Nat) (k : Int) (hl : 1 ≤ l) (hl7 : l ≤ 7) (ht : t < l + 6) (w : World) :
    Calls Try.prog 17 #[.agg (ctA l s (1 : Nat) k), .bool false, .int .i64 t] w fun e w' => e = .returned (.int .i64 (-(failN (l + 6 - t) 1 false : Nat))) ∧ Below w.heap.size w w' := by
  have hlt : (t : Int) < (l : Int) + 6 := by omega
  obtain ⟨f, hf⟩ : ∃ f, l + 6 - t = f := ⟨_, rfl⟩
  have hfi : (l : Int) + 6 - (t : Int) = (f : Int) := by omega
  have hf13 : f ≤ 13 := by omega
  rw [hf]
  clear hf
  go_enter Try.func17, Try.ntmps17
  go_wp2
  go_loop [9, 10] (fun n i => ∃ j : Nat, j ≤ f ∧ i = .int .i64 ((j : Int) + 1) ∧ n = .int .i64 (failN j 1 false : Nat)) (fun _ i => f + 1 - (intOf i).toNat)
  case atStart => exact ⟨0, by omega, rfl, rfl⟩
  case round =>
    obtain ⟨j, hj, rfl, rfl⟩ := hrel
    have hb := failN_le j 1 (by omega) false
    by_cases hjf : j < f
    · have hjf' : (j : Int) + 1 ≤ (f : Int) := by omega
      by_cases h0 : j = 0
      · subst h0
        have hS : Hid (failN (0 + 1) 1 false = failN 0 1 false + 100) := hide (by rfl)
        obtain ⟨x, hx⟩ : ∃ x, failN 0 1 false = x := ⟨_, rfl⟩
        rw [hx] at hb hS ⊢
        clear hx
        go_wp2
        go_round
        case rel => exact ⟨0 + 1, by omega, by go_num, by rw [hS.out]; go_num⟩
        case measure => simp [intOf]; omega
      · have b0 : ((j : Int) + 1 == 1) = false := by simp; omega
        have b0' : ((j : Int) == 0) = false := by simp; omega
        by_cases h3 : j ≤ 2
        · have h3' : ¬ (3 : Int) < (j : Int) + 1 := by omega
          have hS : Hid (failN (j + 1) 1 false = failN j 1 false + 200) := hide (by rw [failN_succ _ _ _ (by omega), loss_b j h0 h3])
          obtain ⟨x, hx⟩ : ∃ x, failN j 1 false = x := ⟨_, rfl⟩
          rw [hx] at hb hS ⊢
          clear hx
          go_wp2
          go_round
          case rel => exact ⟨j + 1, by omega, by go_num, by rw [hS.out]; go_num⟩
          case measure => simp [intOf]; omega
        · have h3' : (3 : Int) < (j : Int) + 1 := by omega
          have hS : Hid (failN (j + 1) 1 false = failN j 1 false + 300) := hide (by rw [failN_succ _ _ _ (by omega), loss_c j h3])
          obtain ⟨x, hx⟩ : ∃ x, failN j 1 false = x := ⟨_, rfl⟩
          rw [hx] at hb hS ⊢
          clear hx
          go_wp2
          go_round
          case rel => exact ⟨j + 1, by omega, by go_num, by rw [hS.out]; go_num⟩
          case measure => simp [intOf]; omega
    · obtain rfl : j = f := by omega
      have hjf' : ¬ (j : Int) + 1 ≤ (j : Int) := by omega
      obtain ⟨x, hx⟩ : ∃ x, failN j 1 false = x := ⟨_, rfl⟩
      have HX := hide hx
      rw [hx] at hb ⊢
      clear hx
      go_wp2
      go_ret
      exact ⟨by rw [HX.out]; go_num, (Below.refl _ _).alloc (Nat.le_refl _) _⟩

set_option maxRecDepth 100000 in
set_option maxHeartbeats 4000000 in
theorem ScoreOf_fail1true (l s t : Nat) (k : Int) (hl : 1 ≤ l) (hl7 : l ≤ 7) (ht : t < l + 6) (w : World) :
    Calls Try.prog 17 #[.agg (ctA l s (1 : Nat) k), .bool true, .int .i64 t] w fun e w' => e = .returned (.int .i64 (-(failN (l + 6 - t) 1 true : Nat))) ∧ Below w.heap.size w w' := by
  have hlt : (t : Int) < (l : Int) + 6 := by omega
  obtain ⟨f, hf⟩ : ∃ f, l + 6 - t = f := ⟨_, rfl⟩
  have hfi : (l : Int) + 6 - (t : Int) = (f : Int) := by omega
  have hf13 : f ≤ 13 := by omega
  rw [hf]
  clear hf
  go_enter Try.func17, Try.ntmps17
  go_wp2
  go_loop [9, 10] (fun n i => ∃ j : Nat, j ≤ f ∧ i = .int .i64 ((j : Int) + 1) ∧ n = .int .i64 (failN j 1 true : Nat)) (fun _ i => f + 1 - (intOf i).toNat)
  case atStart => exact ⟨0, by omega, rfl, rfl⟩
  case round =>
    obtain ⟨j, hj, rfl, rfl⟩ := hrel
    have hb := failN_le j 1 (by omega) true
    by_cases hjf : j < f
    · have hjf' : (j : Int) + 1 ≤ (f : Int) := by omega
      by_cases h0 : j = 0
      · subst h0
        have hS : Hid (failN (0 + 1) 1 true = failN 0 1 true + 200) := hide (by rfl)
        obtain ⟨x, hx⟩ : ∃ x, failN 0 1 true = x := ⟨_, rfl⟩
        rw [hx] at hb hS ⊢
        clear hx
        go_wp2
        go_round
        case rel => exact ⟨0 + 1, by omega, by go_num, by rw [hS.out]; go_num⟩
        case measure => simp [intOf]; omega
      · have b0 : ((j : Int) + 1 == 1) = false := by simp; omega
        have b0' : ((j : Int) == 0) = false := by simp; omega
        have hS : Hid (failN (j + 1) 1 true = failN j 1 true + 300) := hide (by rw [failN_succ _ _ _ (by omega), loss_a j h0])
        obtain ⟨x, hx⟩ : ∃ x, failN j 1 true = x := ⟨_, rfl⟩
        rw [hx] at hb hS ⊢
        clear hx
        go_wp2
        go_round
        case rel => exact ⟨j + 1, by omega, by go_num, by rw [hS.out]; go_num⟩
        case measure => simp [intOf]; omega
    · obtain rfl : j = f := by omega
      have hjf' : ¬ (j : Int) + 1 ≤ (j : Int) := by omega
      obtain ⟨x, hx⟩ : ∃ x, failN j 1 true = x := ⟨_, rfl⟩
      have HX := hide hx
      rw [hx] at hb ⊢
      clear hx
      go_wp2
      go_ret
      exact ⟨by rw [HX.out]; go_num, (Below.refl _ _).alloc (Nat.le_refl _) _⟩

set_option maxRecDepth 100000 in
set_option maxHeartbeats 4000000 in
theorem ScoreOf_fail2false (l s t : Nat) (k : Int) (hl : 1 ≤ l) (hl7 : l ≤ 7) (ht : t < l + 6) (w : World) :
    Calls Try.prog 17 #[.agg (ctA l s (2 : Nat) k), .bool false, .int .i64 t] w fun e w' => e = .returned (.int .i64 (-(failN (l + 6 - t) 2 false : Nat))) ∧ Below w.heap.size w w' := by
  have hlt : (t : Int) < (l : Int) + 6 := by omega
  obtain ⟨f, hf⟩ : ∃ f, l + 6 - t = f := ⟨_, rfl⟩
  have hfi : (l : Int) + 6 - (t : Int) = (f : Int) := by omega
  have hf13 : f ≤ 13 := by omega
  rw [hf]
  clear hf
  go_enter Try.func17, Try.ntmps17
  go_wp2
  go_loop [9, 10] (fun n i => ∃ j : Nat, j ≤ f ∧ i = .int .i64 ((j : Int) + 1) ∧ n = .int .i64 (failN j 2 false : Nat)) (fun _ i => f + 1 - (intOf i).toNat)
  case atStart => exact ⟨0, by omega, rfl, rfl⟩
  case round =>
    obtain ⟨j, hj, rfl, rfl⟩ := hrel
    have hb := failN_le j 2 (by omega) false
    by_cases hjf : j < f
    · have hjf' : (j : Int) + 1 ≤ (f : Int) := by omega
      by_cases h0 : j = 0
      · subst h0
        have hS : Hid (failN (0 + 1) 2 false = failN 0 2 false + 200) := hide (by rfl)
        obtain ⟨x, hx⟩ : ∃ x, failN 0 2 false = x := ⟨_, rfl⟩
        rw [hx] at hb hS ⊢
        clear hx
        go_wp2
        go_round
        case rel => exact ⟨0 + 1, by omega, by go_num, by rw [hS.out]; go_num⟩
        case measure => simp [intOf]; omega
      · have b0 : ((j : Int) + 1 == 1) = false := by simp; omega
        have b0' : ((j : Int) == 0) = false := by simp; omega
        by_cases h3 : j ≤ 2
        · have h3' : ¬ (3 : Int) < (j : Int) + 1 := by omega
          have hS : Hid (failN (j + 1) 2 false = failN j 2 false + 400) := hide (by rw [failN_succ _ _ _ (by omega), loss_b j h0 h3])
          obtain ⟨x, hx⟩ : ∃ x, failN j 2 false = x := ⟨_, rfl⟩
          rw [hx] at hb hS ⊢
          clear hx
          go_wp2
          go_round
          case rel => exact ⟨j + 1, by omega, by go_num, by rw [hS.out]; go_num⟩
          case measure => simp [intOf]; omega
        · have h3' : (3 : Int) < (j : Int) + 1 := by omega
          have hS : Hid (failN (j + 1) 2 false = failN j 2 false + 600) := hide (by rw [failN_succ _ _ _ (by omega), loss_c j h3])
          obtain ⟨x, hx⟩ : ∃ x, failN j 2 false = x := ⟨_, rfl⟩
          rw [hx] at hb hS ⊢
          clear hx
          go_wp2
          go_round
          case rel => exact ⟨j + 1, by omega, by go_num, by rw [hS.out]; go_num⟩
          case measure => simp [intOf]; omega
    · obtain rfl : j = f := by omega
      have hjf' : ¬ (j : Int) + 1 ≤ (j : Int) := by omega
      obtain ⟨x, hx⟩ : ∃ x, failN j 2 false = x := ⟨_, rfl⟩
      have HX := hide hx
      rw [hx] at hb ⊢
      clear hx
      go_wp2
      go_ret
      exact ⟨by rw [HX.out]; go_num, (Below.refl _ _).alloc (Nat.le_refl _) _⟩

set_option maxRecDepth 100000 in
set_option maxHeartbeats 4000000 in
theorem ScoreOf_fail2true (l s t : Nat) (k : Int) (hl : 1 ≤ l) (hl7 : l ≤ 7) (ht : t < l + 6) (w : World) :
    Calls Try.prog 17 #[.agg (ctA l s (2 : Nat) k), .bool true, .int .i64 t] w fun e w' => e = .returned (.int .i64 (-(failN (l + 6 - t) 2 true : Nat))) ∧ Below w.heap.size w w' := by
  have hlt : (t : Int) < (l : Int) + 6 := by omega
  obtain ⟨f, hf⟩ : ∃ f, l + 6 - t = f := ⟨_, rfl⟩
  have hfi : (l : Int) + 6 - (t : Int) = (f : Int) := by omega
  have hf13 : f ≤ 13 := by omega
  rw [hf]
  clear hf
  go_enter Try.func17, Try.ntmps17
  go_wp2
  go_loop [9, 10] (fun n i => ∃ j : Nat, j ≤ f ∧ i = .int .i64 ((j : Int) + 1) ∧ n = .int .i64 (failN j 2 true : Nat)) (fun _ i => f + 1 - (intOf i).toNat)
  case atStart => exact ⟨0, by omega, rfl, rfl⟩
  case round =>
    obtain ⟨j, hj, rfl, rfl⟩ := hrel
    have hb := failN_le j 2 (by omega) true
    by_cases hjf : j < f
    · have hjf' : (j : Int) + 1 ≤ (f : Int) := by omega
      by_cases h0 : j = 0
      · subst h0
        have hS : Hid (failN (0 + 1) 2 true = failN 0 2 true + 400) := hide (by rfl)
        obtain ⟨x, hx⟩ : ∃ x, failN 0 2 true = x := ⟨_, rfl⟩
        rw [hx] at hb hS ⊢
        clear hx
        go_wp2
        go_round
        case rel => exact ⟨0 + 1, by omega, by go_num, by rw [hS.out]; go_num⟩
        case measure => simp [intOf]; omega
      · have b0 : ((j : Int) + 1 == 1) = false := by simp; omega
        have b0' : ((j : Int) == 0) = false := by simp; omega
        have hS : Hid (failN (j + 1) 2 true = failN j 2 true + 600) := hide (by rw [failN_succ _ _ _ (by omega), loss_a j h0])
        obtain ⟨x, hx⟩ : ∃ x, failN j 2 true = x := ⟨_, rfl⟩
        rw [hx] at hb hS ⊢
        clear hx
        go_wp2
        go_round
        case rel => exact ⟨j + 1, by omega, by go_num, by rw [hS.out]; go_num⟩
        case measure => simp [intOf]; omega
    · obtain rfl : j = f := by omega
      have hjf' : ¬ (j : Int) + 1 ≤ (j : Int) := by omega
      obtain ⟨x, hx⟩ : ∃ x, failN j 2 true = x := ⟨_, rfl⟩
      have HX := hide hx
      rw [hx] at hb ⊢
      clear hx
      go_wp2
      go_ret
      exact ⟨by rw [HX.out]; go_num, (Below.refl _ _).alloc (Nat.le_refl _) _⟩

end Go.Proofs.Ytiihnlpoagnkhaa
