/-
  What package deck's Sign and Number answer. No conditions beyond those that each theorem bears.
-/
import Derived.Test.YtdipbbcggccgcabSign
namespace Go.Proofs.Ytdipbbcggccgcab
open Go.RowKit

theorem retZ {a b : Int} (h : a = b) : Ending.returned (.int .i64 a) = .returned (.int .i64 b) := by rw [h]

set_option maxHeartbeats 400000 in
theorem Sign_big (a : Option Addr) (n c : Nat) (w : World) (hn : 104 < n) :
    Calls Try.prog 7 #[.slice a n c] w fun e w' => e = .returned (.tuple #[.int .i64 0, .int .i64 2]) ∧ w' = w := by
  go_enter Try.func7, Try.ntmps7
  go_wp2
  go_ret2
  exact ⟨rfl, rfl⟩

set_option maxHeartbeats 400000 in
theorem Sign_no (a : Option Addr) (n c : Nat) (zs : List Int) (w : World) (h : Rd w a n c zs) (hn : n ≤ 104) (hno : ¬ IsOrd zs) :
    Calls Try.prog 7 #[.slice a n c] w fun e w' => e = .returned (.tuple #[.int .i64 0, .int .i64 1]) ∧ Below w.heap.size w w' := by
  go_enter Try.func7, Try.ntmps7
  go_wp2_with fail
  refine (isOrder_any _ _ _ zs _ h hn false (by simp [hno])).mono ?_
  rintro e w1 ⟨rfl, hB1⟩
  go_wp2_with fail
  go_ret2
  exact ⟨rfl, hB1⟩

set_option maxHeartbeats 400000 in
theorem Sign_yes (a : Option Addr) (n c : Nat) (zs : List Int) (w : World) (h : Rd w a n c zs) (hn : n ≤ 104) (ho : IsOrd zs) :
    Calls Try.prog 7 #[.slice a n c] w fun e w' => e = .returned (.tuple #[.int .i64 (signN (pairs zs)), .int .i64 0]) ∧ Below w.heap.size w w' := by
  have HLEN := hide h.len
  have HO := hide ho
  have HH := hide h
  clear h ho
  go_enter Try.func7, Try.ntmps7
  go_wp2_with fail
  refine (isOrder_any _ _ _ zs _ HH.out hn true (by simp [HO.out])).mono ?_
  rintro e w1 ⟨rfl, hB1⟩
  have HB := hide hB1
  clear hB1
  go_wp2_with fail
  go_loopw [4, 14] (fun s i wr => ∃ k : Nat, k ≤ n ∧ i = .int .i64 k ∧ s = .int .i64 (sumTo (less zs) k : Nat) ∧ wr = w1) (fun _ i _ => n - (intOf i).toNat)
  case atStart => exact ⟨0, by omega, rfl, rfl, rfl⟩
  case round =>
    obtain ⟨k, hk, rfl, rfl, hw⟩ := hrel
    subst wr
    have hP := pairs_le zs (by rw [HLEN.out]; exact hn) k (by rw [HLEN.out]; exact hk)
    by_cases hlt : k < n
    · have hl := less_le zs k (by rw [HLEN.out]; exact hlt)
      rw [HLEN.out] at hl
      have HN : Hid (sumTo (less zs) (k + 1) = sumTo (less zs) k + less zs k) := rfl
      obtain ⟨S, hS⟩ : ∃ S, S = sumTo (less zs) k := ⟨_, rfl⟩
      rw [← hS] at hP HN ⊢
      clear hS
      have hlt' : (k : Int) < (n : Int) := by omega
      go_wp2_with fail
      refine (smaller_any _ _ _ zs k _ (HH.out.mono HB.out) hlt hn).mono ?_
      rintro e w2 ⟨rfl, hw⟩
      subst w2
      obtain ⟨D, hD⟩ : ∃ D, D = less zs k := ⟨_, rfl⟩
      rw [← hD] at hl HN ⊢
      clear hD
      go_wp2_with fail
      go_roundw
      case rel => exact ⟨k + 1, by omega, by go_num, by rw [HN.out]; go_num, by trivial⟩
      case measure => simp [intOf]; omega
    · have hke : k = n := by omega
      subst k
      have hlt' : ¬ (n : Int) < (n : Int) := by omega
      have HP : Hid (pairs zs = sumTo (less zs) n) := hide (by unfold pairs; rw [HLEN.out])
      obtain ⟨S, hS⟩ : ∃ S, S = sumTo (less zs) n := ⟨_, rfl⟩
      rw [← hS] at hP HP ⊢
      clear hS
      by_cases hpar : S % 2 = 0
      · have hb : ((S : Int) % 2 != 0) = false := by simp; omega
        go_wp2_with fail
        go_ret2
        refine ⟨?_, HB.out⟩
        have e : signN (pairs zs) = 1 := by rw [HP.out, signN, if_pos hpar]
        rw [e]
        rfl
      · have hb : ((S : Int) % 2 != 0) = true := by simp; omega
        go_wp2_with fail
        go_ret2
        refine ⟨?_, HB.out⟩
        have e : signN (pairs zs) = -1 := by rw [HP.out, signN, if_neg hpar]
        rw [e]
        rfl

set_option maxHeartbeats 400000 in
theorem Number_big (a : Option Addr) (n c : Nat) (w : World) (hn : 12 < n) :
    Calls Try.prog 6 #[.slice a n c] w fun e w' => e = .returned (.tuple #[.int .i64 0, .int .i64 2]) ∧ w' = w := by
  go_enter Try.func6, Try.ntmps6
  go_wp2
  go_ret2
  exact ⟨rfl, rfl⟩

set_option maxHeartbeats 400000 in
theorem Number_no (a : Option Addr) (n c : Nat) (zs : List Int) (w : World) (h : Rd w a n c zs) (hn : n ≤ 12) (hno : ¬ IsOrd zs) :
    Calls Try.prog 6 #[.slice a n c] w fun e w' => e = .returned (.tuple #[.int .i64 0, .int .i64 1]) ∧ Below w.heap.size w w' := by
  go_enter Try.func6, Try.ntmps6
  go_wp2_with fail
  refine (isOrder_any _ _ _ zs _ h (by omega) false (by simp [hno])).mono ?_
  rintro e w1 ⟨rfl, hB1⟩
  go_wp2_with fail
  go_ret2
  exact ⟨rfl, hB1⟩

set_option maxHeartbeats 400000 in
theorem Number_yes (a : Option Addr) (n c : Nat) (zs : List Int) (w : World) (h : Rd w a n c zs) (hn : n ≤ 12) (ho : IsOrd zs) :
    Calls Try.prog 6 #[.slice a n c] w fun e w' => e = .returned (.tuple #[.int .i64 (numTo zs n : Nat), .int .i64 0]) ∧ Below w.heap.size w w' := by
  have HLEN := hide h.len
  have HO := hide ho
  have HH := hide h
  clear h ho
  go_enter Try.func6, Try.ntmps6
  go_wp2_with fail
  refine (isOrder_any _ _ _ zs _ HH.out (by omega) true (by simp [HO.out])).mono ?_
  rintro e w1 ⟨rfl, hB1⟩
  have HB := hide hB1
  clear hB1
  go_wp2_with fail
  go_loopw [4, 14] (fun s i wr => ∃ k : Nat, k ≤ n ∧ i = .int .i64 k ∧ s = .int .i64 (horner zs k : Nat) ∧ wr = w1) (fun _ i _ => n - (intOf i).toNat)
  case atStart => exact ⟨0, by omega, rfl, rfl, rfl⟩
  case round =>
    obtain ⟨k, hk, rfl, rfl, hw⟩ := hrel
    subst wr
    have hP := horner_le zs (by rw [HLEN.out]; exact hn) k (by rw [HLEN.out]; exact hk)
    by_cases hlt : k < n
    · have hl := less_le zs k (by rw [HLEN.out]; exact hlt)
      rw [HLEN.out] at hl
      have HN : Hid (horner zs (k + 1) = horner zs k * (zs.length - k) + less zs k) := rfl
      rw [HLEN.out] at HN
      obtain ⟨S, hS⟩ : ∃ S, S = horner zs k := ⟨_, rfl⟩
      rw [← hS] at hP HN ⊢
      clear hS
      have hlt' : (k : Int) < (n : Int) := by omega
      have hmul : (S : Int) * ((n : Int) - (k : Int)) = ((S * (n - k) : Nat) : Int) := by
        rw [Int.natCast_mul, Int.natCast_sub (by omega)]
      have hQ : S * (n - k) ≤ 23298085122481 * 12 := Nat.mul_le_mul hP (by omega)
      generalize S * (n - k) = Q at *
      go_wp2_with fail
      refine (smaller_any _ _ _ zs k _ (HH.out.mono HB.out) hlt (by omega)).mono ?_
      rintro e w2 ⟨rfl, hw⟩
      subst w2
      obtain ⟨D, hD⟩ : ∃ D, D = less zs k := ⟨_, rfl⟩
      rw [← hD] at hl HN ⊢
      clear hD
      go_wp2_with fail
      go_roundw
      case rel => exact ⟨k + 1, by omega, by go_num, by rw [HN.out]; go_num, by trivial⟩
      case measure => simp [intOf]; omega
    · have hke : k = n := by omega
      subst k
      have hlt' : ¬ (n : Int) < (n : Int) := by omega
      have HP : Hid (horner zs n = numTo zs n) := hide (by have := horner_end zs; rwa [HLEN.out] at this)
      rw [HP.out] at hP ⊢
      go_wp2_with fail
      go_ret2
      exact ⟨rfl, HB.out⟩

end Go.Proofs.Ytdipbbcggccgcab
