/-
  What package deck's Sign and Number answer, and what the document's own OrderIs, SignOf and NumberOf answer. No conditions beyond those that each theorem bears.
-/
import Derived.Test.YtdipbbcggccgcaaSign
namespace Go.Proofs.Ytdipbbcggccgcaa
open Go.RowKit

theorem retZ {a b : Int} (h : a = b) : Ending.returned (.int .i64 a) = .returned (.int .i64 b) := by rw [h]

set_option maxHeartbeats 400000 in
theorem Sign_big (a : Option Addr) (n c : Nat) (w : World) (hn : 104 < n) :
    Calls Try.prog 21 #[.slice a n c] w fun e w' => e = .returned (.tuple #[.int .i64 0, .int .i64 2]) ∧ w' = w := by
  go_enter Try.func21, Try.ntmps21
  go_wp2
  go_ret2
  exact ⟨rfl, rfl⟩

set_option maxHeartbeats 400000 in
theorem Sign_no (a : Option Addr) (n c : Nat) (zs : List Int) (w : World) (h : Rd w a n c zs) (hn : n ≤ 104) (hno : ¬ IsOrd zs) :
    Calls Try.prog 21 #[.slice a n c] w fun e w' => e = .returned (.tuple #[.int .i64 0, .int .i64 1]) ∧ Below w.heap.size w w' := by
  go_enter Try.func21, Try.ntmps21
  go_wp2_with fail
  refine (isOrder_any _ _ _ zs _ h hn false (by simp [hno])).mono ?_
  rintro e w1 ⟨rfl, hB1⟩
  go_wp2_with fail
  go_ret2
  exact ⟨rfl, hB1⟩

set_option maxHeartbeats 400000 in
theorem Sign_yes (a : Option Addr) (n c : Nat) (zs : List Int) (w : World) (h : Rd w a n c zs) (hn : n ≤ 104) (ho : IsOrd zs) :
    Calls Try.prog 21 #[.slice a n c] w fun e w' => e = .returned (.tuple #[.int .i64 (signN (pairs zs)), .int .i64 0]) ∧ Below w.heap.size w w' := by
  have HLEN := hide h.len
  have HO := hide ho
  have HH := hide h
  clear h ho
  go_enter Try.func21, Try.ntmps21
  go_wp2_with fail
  refine (isOrder_any _ _ _ zs _ HH.out hn true (by simp [HO.out])).mono ?_
  rintro e w1 ⟨rfl, hB1⟩
  have HB := hide hB1
  clear hB1
  go_wp2_with fail
  go_loopw [4, 14] (fun s i wr => ∃ k : Nat, k ≤ n ∧ i = .int .i64 k ∧ s = .int .i64 (sumTo (less zs) k : Nat) ∧ wr = w1) (fun _ i _ => n - (intOf i).toNat)
  case atStart => exact ⟨0, by omega, rfl, rfl, rfl⟩
  case round =>
    obtain ⟨k, hk, rfl, rfl, hw⟩ := hrel
    subst wr
    have hP := pairs_le zs (by rw [HLEN.out]; exact hn) k (by rw [HLEN.out]; exact hk)
    by_cases hlt : k < n
    · have hl := less_le zs k (by rw [HLEN.out]; exact hlt)
      rw [HLEN.out] at hl
      have HN : Hid (sumTo (less zs) (k + 1) = sumTo (less zs) k + less zs k) := rfl
      obtain ⟨S, hS⟩ : ∃ S, S = sumTo (less zs) k := ⟨_, rfl⟩
      rw [← hS] at hP HN ⊢
      clear hS
      have hlt' : (k : Int) < (n : Int) := by omega
      go_wp2_with fail
      refine (smaller_any _ _ _ zs k _ (HH.out.mono HB.out) hlt hn).mono ?_
      rintro e w2 ⟨rfl, hw⟩
      subst w2
      obtain ⟨D, hD⟩ : ∃ D, D = less zs k := ⟨_, rfl⟩
      rw [← hD] at hl HN ⊢
      clear hD
      go_wp2_with fail
      go_roundw
      case rel => exact ⟨k + 1, by omega, by go_num, by rw [HN.out]; go_num, by trivial⟩
      case measure => simp [intOf]; omega
    · have hke : k = n := by omega
      subst k
      have hlt' : ¬ (n : Int) < (n : Int) := by omega
      have HP : Hid (pairs zs = sumTo (less zs) n) := hide (by unfold pairs; rw [HLEN.out])
      obtain ⟨S, hS⟩ : ∃ S, S = sumTo (less zs) n := ⟨_, rfl⟩
      rw [← hS] at hP HP ⊢
      clear hS
      by_cases hpar : S % 2 = 0
      · have hb : ((S : Int) % 2 != 0) = false := by simp; omega
        go_wp2_with fail
        go_ret2
        refine ⟨?_, HB.out⟩
        have e : signN (pairs zs) = 1 := by rw [HP.out, signN, if_pos hpar]
        rw [e]
        rfl
      · have hb : ((S : Int) % 2 != 0) = true := by simp; omega
        go_wp2_with fail
        go_ret2
        refine ⟨?_, HB.out⟩
        have e : signN (pairs zs) = -1 := by rw [HP.out, signN, if_neg hpar]
        rw [e]
        rfl

set_option maxHeartbeats 400000 in
theorem Number_big (a : Option Addr) (n c : Nat) (w : World) (hn : 12 < n) :
    Calls Try.prog 22 #[.slice a n c] w fun e w' => e = .returned (.tuple #[.int .i64 0, .int .i64 2]) ∧ w' = w := by
  go_enter Try.func22, Try.ntmps22
  go_wp2
  go_ret2
  exact ⟨rfl, rfl⟩

set_option maxHeartbeats 400000 in
theorem Number_no (a : Option Addr) (n c : Nat) (zs : List Int) (w : World) (h : Rd w a n c zs) (hn : n ≤ 12) (hno : ¬ IsOrd zs) :
    Calls Try.prog 22 #[.slice a n c] w fun e w' => e = .returned (.tuple #[.int .i64 0, .int .i64 1]) ∧ Below w.heap.size w w' := by
  go_enter Try.func22, Try.ntmps22
  go_wp2_with fail
  refine (isOrder_any _ _ _ zs _ h (by omega) false (by simp [hno])).mono ?_
  rintro e w1 ⟨rfl, hB1⟩
  go_wp2_with fail
  go_ret2
  exact ⟨rfl, hB1⟩

set_option maxHeartbeats 400000 in
theorem Number_yes (a : Option Addr) (n c : Nat) (zs : List Int) (w : World) (h : Rd w a n c zs) (hn : n ≤ 12) (ho : IsOrd zs) :
    Calls Try.prog 22 #[.slice a n c] w fun e w' => e = .returned (.tuple #[.int .i64 (numTo zs n : Nat), .int .i64 0]) ∧ Below w.heap.size w w' := by
  have HLEN := hide h.len
  have HO := hide ho
  have HH := hide h
  clear h ho
  go_enter Try.func22, Try.ntmps22
  go_wp2_with fail
  refine (isOrder_any _ _ _ zs _ HH.out (by omega) true (by simp [HO.out])).mono ?_
  rintro e w1 ⟨rfl, hB1⟩
  have HB := hide hB1
  clear hB1
  go_wp2_with fail
  go_loopw [4, 14] (fun s i wr => ∃ k : Nat, k ≤ n ∧ i = .int .i64 k ∧ s = .int .i64 (horner zs k : Nat) ∧ wr = w1) (fun _ i _ => n - (intOf i).toNat)
  case atStart => exact ⟨0, by omega, rfl, rfl, rfl⟩
  case round =>
    obtain ⟨k, hk, rfl, rfl, hw⟩ := hrel
    subst wr
    have hP := horner_le zs (by rw [HLEN.out]; exact hn) k (by rw [HLEN.out]; exact hk)
    by_cases hlt : k < n
    · have hl := less_le zs k (by rw [HLEN.out]; exact hlt)
      rw [HLEN.out] at hl
      have HN : Hid (horner zs (k + 1) = horner zs k * (zs.length - k) + less zs k) := rfl
      rw [HLEN.out] at HN
      obtain ⟨S, hS⟩ : ∃ S, S = horner zs k := ⟨_, rfl⟩
      rw [← hS] at hP HN ⊢
      clear hS
      have hlt' : (k : Int) < (n : Int) := by omega
      have hmul : (S : Int) * ((n : Int) - (k : Int)) = ((S * (n - k) : Nat) : Int) := by
        rw [Int.natCast_mul, Int.natCast_sub (by omega)]
      have hQ : S * (n - k) ≤ 23298085122481 * 12 := Nat.mul_le_mul hP (by omega)
      generalize S * (n - k) = Q at *
      go_wp2_with fail
      refine (smaller_any _ _ _ zs k _ (HH.out.mono HB.out) hlt (by omega)).mono ?_
      rintro e w2 ⟨rfl, hw⟩
      subst w2
      obtain ⟨D, hD⟩ : ∃ D, D = less zs k := ⟨_, rfl⟩
      rw [← hD] at hl HN ⊢
      clear hD
      go_wp2_with fail
      go_roundw
      case rel => exact ⟨k + 1, by omega, by go_num, by rw [HN.out]; go_num, by trivial⟩
      case measure => simp [intOf]; omega
    · have hke : k = n := by omega
      subst k
      have hlt' : ¬ (n : Int) < (n : Int) := by omega
      have HP : Hid (horner zs n = numTo zs n) := hide (by have := horner_end zs; rwa [HLEN.out] at this)
      rw [HP.out] at hP ⊢
      go_wp2_with fail
      go_ret2
      exact ⟨rfl, HB.out⟩

set_option maxHeartbeats 400000 in
theorem at_any (a : Option Addr) (n c : Nat) (zs : List Int) (x : Int) (w : World) (h : Rd w a n c zs) :
    Calls Try.prog 42 #[.slice a n c, .int .i64 x] w fun e w' => ∃ r : Int, e = .returned (.int .i64 r) ∧ (0 ≤ r ↔ x ∈ zs) ∧ w' = w := by
  have hcm := h.max
  have hcn := h.cap
  unfold maxLen at hcm
  have HH := hide h
  clear h
  go_enter Try.func42, Try.ntmps42
  go_wp2
  go_loop [5] (fun i => ∃ k : Nat, k ≤ n ∧ i = .int .i64 k ∧ Hid (x ∉ zs.take k)) (fun i => n - (intOf i).toNat)
  case atStart => exact ⟨0, by omega, rfl, by simp [Hid]⟩
  case round =>
    obtain ⟨k, hk, rfl, HL⟩ := hrel
    by_cases hlt : k < n
    · obtain ⟨b, off, ha, hc⟩ := HH.out.cells (by omega)
      subst ha
      have r1 := hc k hlt
      clear hc
      have hzl : k < zs.length := by rw [HH.out.len]; exact hlt
      by_cases hv : zs.getD k 0 = x
      · have hb : (zs[k]?.getD 0 == x) = true := by simpa using hv
        have HM : Hid (x ∈ zs) := hide (by rw [← hv]; simp [List.getD, hzl])
        clear hv hzl
        go_wp2
        go_ret
        exact ⟨_, rfl, by simp [HM.out], rfl⟩
      · have hb : (zs[k]?.getD 0 == x) = false := by simpa using hv
        have HN : Hid (x ∉ zs.take (k + 1)) := hide (by rw [take_snoc zs k hzl]; simp only [List.mem_append, List.mem_singleton, not_or]; exact ⟨HL.out, fun e => hv e.symm⟩)
        clear hv hzl
        go_wp2
        go_round
        case rel => exact ⟨k + 1, by omega, by go_num, HN⟩
        case measure => simp [intOf]; omega
    · have hke : k = n := by omega
      subst k
      have hlt' : ¬ (n : Int) < (n : Int) := by omega
      go_wp2
      go_ret
      refine ⟨_, rfl, ?_, rfl⟩
      have := HL.out
      rw [List.take_of_length_le (by rw [HH.out.len]; exact Nat.le_refl _)] at this
      simp [this]

set_option maxHeartbeats 400000 in
theorem OrderIs_any (a : Option Addr) (n c : Nat) (zs : List Int) (w : World) (h : Rd w a n c zs) (v : Bool) (hv : v = true ↔ IsOrd zs) :
    Calls Try.prog 24 #[.slice a n c] w fun e w' => e = .returned (.bool v) ∧ w' = w := by
  have hcm := h.max
  have hcn := h.cap
  unfold maxLen at hcm
  have HH := hide h
  have HV := hide hv
  clear h hv
  go_enter Try.func24, Try.ntmps24
  go_wp2_with fail
  go_loopw [3] (fun i wr => ∃ k : Nat, k ≤ n ∧ i = .int .i64 k ∧ wr = w ∧ Hid (∀ j : Nat, j < k → (j : Int) ∈ zs)) (fun i _ => n - (intOf i).toNat)
  case atStart => exact ⟨0, by omega, rfl, rfl, fun j hj => absurd hj (by omega)⟩
  case round =>
    obtain ⟨k, hk, rfl, hw, HL⟩ := hrel
    subst wr
    by_cases hlt : k < n
    · have hlt' : (k : Int) < (n : Int) := by omega
      go_wp2_with fail
      refine (at_any _ _ _ zs (k : Int) _ HH.out).mono ?_
      rintro e w2 ⟨r, rfl, hr, hw⟩
      subst w2
      by_cases hm : (k : Int) ∈ zs
      · have hr0 : 0 ≤ r := hr.2 hm
        have HN : Hid (∀ j : Nat, j < k + 1 → (j : Int) ∈ zs) := hide (fun j hj => by
          by_cases e : j = k
          · subst e; exact hm
          · exact HL.out j (by omega))
        clear hr hm
        go_wp2_with fail
        go_roundw
        case rel => exact ⟨k + 1, by omega, by go_num, by trivial, HN⟩
        case measure => simp [intOf]; omega
      · have hr0 : r < 0 := by
          rcases Int.lt_or_le r 0 with h | h
          · exact h
          · exact absurd (hr.1 h) hm
        have HM := hide hm
        clear hr hm
        go_wp2_with fail
        go_ret
        exact ⟨ret_bool (by cases v; rfl; exact absurd ((HV.out.1 rfl).mem k (by rw [HH.out.len]; exact hlt)) HM.out), rfl⟩
    · have hke : k = n := by omega
      subst k
      have hlt' : ¬ (n : Int) < (n : Int) := by omega
      go_wp2_with fail
      go_ret
      refine ⟨ret_bool ?_, rfl⟩
      symm
      rw [HV.out]
      exact isOrd_of_all zs (by rw [HH.out.len]; exact HL.out)

end Go.Proofs.Ytdipbbcggccgcaa
