/-
  What the document's own SignOf and NumberOf answer, and both factorials. No conditions beyond those that each theorem bears.
-/
import Derived.Test.YtdipbbcggccgcaaSign2
namespace Go.Proofs.Ytdipbbcggccgcaa
open Go.RowKit

theorem signN_succ (p : Nat) : signN (p + 1) = -signN p := by
  unfold signN
  by_cases h : p % 2 = 0
  · rw [if_neg (by omega), if_pos h]
  · rw [if_pos (by omega), if_neg h]; rfl

theorem signN_bd (p : Nat) : -1 ≤ signN p ∧ signN p ≤ 1 := by unfold signN; split <;> omega

set_option maxHeartbeats 400000 in
theorem factRef_any (x : Int) (m : Nat) (hx : x = (m : Int)) (w : World) (hm : m ≤ 12) :
    Calls Try.prog 43 #[.int .i64 x] w fun e w' => e = .returned (.int .i64 (fact m : Nat)) ∧ w' = w := by
  subst hx
  go_enter Try.func43, Try.ntmps43
  go_wp2
  go_loop [3, 4] (fun f i => ∃ t : Nat, (t + 1 ≤ m ∨ t = 0) ∧ i = .int .i64 ((t : Int) + 2) ∧ f = .int .i64 (fact (t + 1) : Nat)) (fun _ i => m + 2 - (intOf i).toNat)
  case atStart => exact ⟨0, .inr rfl, rfl, rfl⟩
  case round =>
    obtain ⟨t, ht, rfl, rfl⟩ := hrel
    have hf := fact_le (t + 1) (by omega)
    have HN : Hid (fact (t + 1 + 1) = fact (t + 1) * (t + 1 + 1)) := rfl
    have HE : Hid (m ≤ t + 1 → fact (t + 1) = fact m) := hide (fun h => by
      by_cases e : m = 0
      · subst e; obtain rfl : t = 0 := by omega
        rfl
      · rw [show t + 1 = m by omega])
    obtain ⟨S, hS⟩ : ∃ S, S = fact (t + 1) := ⟨_, rfl⟩
    rw [← hS] at hf HN HE ⊢
    clear hS
    by_cases hlt : t + 2 ≤ m
    · have hlt' : (t : Int) + 2 ≤ (m : Int) := by omega
      have hmul : (S : Int) * ((t : Int) + 2) = ((S * (t + 1 + 1) : Nat) : Int) := by
        rw [Int.natCast_mul]; rfl
      have hQ : S * (t + 1 + 1) ≤ 479001600 * 12 := Nat.mul_le_mul hf (by omega)
      generalize S * (t + 1 + 1) = Q at *
      go_wp2
      go_round
      case rel => exact ⟨t + 1, .inl (by omega), by go_num, by rw [HN.out]⟩
      case measure => simp [intOf]; omega
    · have hlt' : ¬ (t : Int) + 2 ≤ (m : Int) := by omega
      have HE' := hide (HE.out (by omega))
      go_wp2
      go_ret
      exact ⟨retN HE'.out, rfl⟩

set_option maxHeartbeats 400000 in
theorem fact_any (m : Nat) (w : World) (hm : m ≤ 12) :
    Calls Try.prog 41 #[.int .i64 m] w fun e w' => e = .returned (.int .i64 (fact m : Nat)) ∧ w' = w := by
  go_enter Try.func41, Try.ntmps41
  go_wp2
  go_loop [3, 6] (fun f i => ∃ t : Nat, t ≤ m ∧ i = .int .i64 t ∧ f = .int .i64 (fact t : Nat)) (fun _ i => m - (intOf i).toNat)
  case atStart => exact ⟨0, by omega, rfl, rfl⟩
  case round =>
    obtain ⟨t, ht, rfl, rfl⟩ := hrel
    have hf := fact_le t (by omega)
    have HN : Hid (fact (t + 1) = fact t * (t + 1)) := rfl
    by_cases hlt : t < m
    · obtain ⟨S, hS⟩ : ∃ S, S = fact t := ⟨_, rfl⟩
      rw [← hS] at hf HN ⊢
      clear hS
      have hlt' : (t : Int) < (m : Int) := by omega
      have hmul : (S : Int) * ((t : Int) + 1) = ((S * (t + 1) : Nat) : Int) := by
        rw [Int.natCast_mul]; rfl
      have hQ : S * (t + 1) ≤ 479001600 * 12 := Nat.mul_le_mul hf (by omega)
      generalize S * (t + 1) = Q at *
      go_wp2
      go_round
      case rel => exact ⟨t + 1, by omega, by go_num, by rw [HN.out]⟩
      case measure => simp [intOf]; omega
    · have hte : t = m := by omega
      subst t
      have hlt' : ¬ (m : Int) < (m : Int) := by omega
      go_wp2
      go_ret
      exact ⟨rfl, rfl⟩

/-- The pairs that have been met ahead of place k of round i. -/
def metTo (zs : List Int) (i k : Nat) : Nat := sumTo (fun j => sumTo (moreI zs j) j) i + sumTo (moreI zs i) k

theorem metTo_next (zs : List Int) (i k : Nat) : metTo zs i (k + 1) = metTo zs i k + moreI zs i k := by simp [metTo, sumTo]; omega
theorem metTo_row (zs : List Int) (i : Nat) : metTo zs (i + 1) 0 = metTo zs i i := by simp [metTo, sumTo]
theorem metTo_end (zs : List Int) : metTo zs zs.length 0 = pairs zs := by rw [pairs_eq]; simp [metTo, sumTo]

set_option maxHeartbeats 400000 in
theorem SignOf_any (a : Option Addr) (n c : Nat) (zs : List Int) (w : World) (h : Rd w a n c zs) :
    Calls Try.prog 25 #[.slice a n c] w fun e w' => e = .returned (.int .i64 (signN (pairs zs))) ∧ ∃ q, w' = w.drewN q := by
  have hcm := h.max
  have hcn := h.cap
  unfold maxLen at hcm
  have HH := hide h
  clear h
  go_enter Try.func25, Try.ntmps25
  go_wp2_with fail
  go_loopw [3, 4] (fun s i wr => ∃ (k q : Nat), k ≤ n ∧ i = .int .i64 k ∧ s = .int .i64 (signN (metTo zs k 0)) ∧ wr = w.drewN q) (fun _ i _ => n - (intOf i).toNat)
  case atStart => exact ⟨0, 0, by omega, rfl, rfl, rfl⟩
  case round =>
    obtain ⟨i, q, hi, rfl, rfl, rfl⟩ := hrel
    by_cases hil : i < n
    · obtain ⟨b, off, ha, hc⟩ := HH.out.cells (by omega)
      subst ha
      have HC := hide hc
      have r1 := hc i hil
      have hil' : (i : Int) < (n : Int) := by omega
      clear hc
      go_wp2_with fail
      go_loopw [3, 5] (fun s k wr => ∃ (t q : Nat), t ≤ i ∧ k = .int .i64 t ∧ s = .int .i64 (signN (metTo zs i t)) ∧ wr = w.drewN q) (fun _ k _ => i - (intOf k).toNat)
      case atStart => exact ⟨0, q, by omega, rfl, rfl, rfl⟩
      case round =>
        obtain ⟨t, q, ht, rfl, rfl, rfl⟩ := hrel
        have hsb := signN_bd (metTo zs i t)
        by_cases htl : t < i
        · have r2 := HC.out t (by omega)
          have htl' : (t : Int) < (i : Int) := by omega
          have HN := hide (metTo_next zs i t)
          by_cases hv : zs.getD i 0 < zs.getD t 0
          · have hv' : zs[i]?.getD 0 < zs[t]?.getD 0 := by simpa using hv
            have HS : Hid (signN (metTo zs i (t + 1)) = -signN (metTo zs i t)) := hide (by rw [HN.out, moreI, if_pos hv, signN_succ])
            obtain ⟨S, hS⟩ : ∃ S, S = signN (metTo zs i t) := ⟨_, rfl⟩
            rw [← hS] at hsb HS ⊢
            obtain ⟨hs1, hs2⟩ := hsb
            clear hS hv HN
            go_wp2_with fail
            go_quiet (fail)
            go_wp2_with fail
            go_roundw
            case rel => exact ⟨t + 1, _, by omega, by go_num, by rw [HS.out], rfl⟩
            case measure => simp [intOf]; omega
          · have hv' : ¬ zs[i]?.getD 0 < zs[t]?.getD 0 := by simpa using hv
            have HS : Hid (signN (metTo zs i (t + 1)) = signN (metTo zs i t)) := hide (by rw [HN.out, moreI, if_neg hv, Nat.add_zero])
            obtain ⟨S, hS⟩ : ∃ S, S = signN (metTo zs i t) := ⟨_, rfl⟩
            rw [← hS] at hsb HS ⊢
            obtain ⟨hs1, hs2⟩ := hsb
            clear hS hv HN
            go_wp2_with fail
            go_quiet (fail)
            go_wp2_with fail
            go_roundw
            case rel => exact ⟨t + 1, _, by omega, by go_num, by rw [HS.out], rfl⟩
            case measure => simp [intOf]; omega
        · have hte : t = i := by omega
          subst t
          have htl' : ¬ (i : Int) < (i : Int) := by omega
          have HR := hide (metTo_row zs i)
          go_wp2_with fail
          go_roundw
          case rel => exact ⟨i + 1, _, by omega, by go_num, by rw [HR.out], rfl⟩
          case measure => simp [intOf]; omega
    · have hie : i = n := by omega
      subst i
      have hlt' : ¬ (n : Int) < (n : Int) := by omega
      go_wp2_with fail
      go_ret
      refine ⟨retZ ?_, _, rfl⟩
      have := metTo_end zs
      rw [HH.out.len] at this
      rw [this]

set_option maxHeartbeats 600000 in
theorem NumberOf_any (a : Option Addr) (n c : Nat) (zs : List Int) (w : World) (h : Rd w a n c zs) (hn : n ≤ 12) :
    Calls Try.prog 26 #[.slice a n c] w fun e w' => e = .returned (.int .i64 (numTo zs n : Nat)) ∧ ∃ q, w' = w.drewN q := by
  have hcm := h.max
  have hcn := h.cap
  unfold maxLen at hcm
  have HH := hide h
  have HLEN := hide h.len
  clear h
  go_enter Try.func26, Try.ntmps26
  go_wp2_with fail
  go_loopw [3, 4] (fun s i wr => ∃ (k q : Nat), k ≤ n ∧ i = .int .i64 k ∧ s = .int .i64 (numTo zs k : Nat) ∧ wr = w.drewN q) (fun _ i _ => n - (intOf i).toNat)
  case atStart => exact ⟨0, 0, by omega, rfl, rfl, rfl⟩
  case round =>
    obtain ⟨i, q, hi, rfl, rfl, rfl⟩ := hrel
    have hnum := numTo_le zs (by rw [HLEN.out]; exact hn) i (by rw [HLEN.out]; exact hi)
    by_cases hil : i < n
    · obtain ⟨b, off, ha, hc⟩ := HH.out.cells (by omega)
      subst ha
      have HC := hide hc
      have r1 := hc i hil
      have hil' : (i : Int) < (n : Int) := by omega
      have HST := hide (less_start zs i (i + 1) (Nat.le_refl _))
      have HNX : Hid (numTo zs (i + 1) = numTo zs i + less zs i * fact (n - 1 - i)) := hide (by rw [← HLEN.out]; rfl)
      obtain ⟨M, hM⟩ : ∃ M, M = numTo zs i := ⟨_, rfl⟩
      rw [← hM] at hnum HNX ⊢
      clear hc hM
      go_wp2_with fail
      go_loopw [5, 6] (fun s k wr => ∃ (t q : Nat), i + 1 ≤ t ∧ t ≤ n ∧ k = .int .i64 t ∧ s = .int .i64 (sumTo (lessI zs i) t : Nat) ∧ wr = w.drewN q) (fun _ k _ => n - (intOf k).toNat)
      case atStart => exact ⟨i + 1, q, by omega, by omega, by go_num, by rw [HST.out]; rfl, rfl⟩
      case round =>
        obtain ⟨t, q, ht0, ht, rfl, rfl, rfl⟩ := hrel
        by_cases htl : t < n
        · have hsl : sumTo (lessI zs i) t ≤ t * 1 := sumTo_le _ _ 1 (fun j _ => lessI_le zs i j)
          have HN : Hid (sumTo (lessI zs i) (t + 1) = sumTo (lessI zs i) t + lessI zs i t) := rfl
          obtain ⟨S, hS⟩ : ∃ S, S = sumTo (lessI zs i) t := ⟨_, rfl⟩
          rw [← hS] at hsl HN ⊢
          clear hS
          have r2 := HC.out t htl
          have htl' : (t : Int) < (n : Int) := by omega
          by_cases hv : zs.getD t 0 < zs.getD i 0
          · have hv' : zs[t]?.getD 0 < zs[i]?.getD 0 := by simpa using hv
            have HL : Hid (lessI zs i t = 1) := hide (by unfold lessI; rw [if_pos ⟨by omega, hv⟩])
            clear hv
            go_wp2_with fail
            go_quiet (fail)
            go_wp2_with fail
            go_roundw
            case rel => exact ⟨t + 1, _, by omega, by omega, by go_num, by rw [HN.out, HL.out]; go_num, rfl⟩
            case measure => simp [intOf]; omega
          · have hv' : ¬ zs[t]?.getD 0 < zs[i]?.getD 0 := by simpa using hv
            have HL : Hid (lessI zs i t = 0) := hide (by unfold lessI; rw [if_neg (fun h => hv h.2)])
            clear hv
            go_wp2_with fail
            go_quiet (fail)
            go_wp2_with fail
            go_roundw
            case rel => exact ⟨t + 1, _, by omega, by omega, by go_num, by rw [HN.out, HL.out]; go_num, rfl⟩
            case measure => simp [intOf]; omega
        · have hte : t = n := by omega
          subst t
          have htl' : ¬ (n : Int) < (n : Int) := by omega
          have hls := less_le zs i (by rw [HLEN.out]; exact hil)
          rw [HLEN.out] at hls
          have HE : Hid (sumTo (lessI zs i) n = less zs i) := hide (by unfold less; rw [HLEN.out])
          rw [HE.out]
          obtain ⟨D, hD⟩ : ∃ D, D = less zs i := ⟨_, rfl⟩
          rw [← hD] at hls HNX ⊢
          clear hD HE
          go_wp2_with fail
          refine (factRef_any _ (n - 1 - i) (by omega) _ (by omega)).mono ?_
          rintro e w2 ⟨rfl, hw⟩
          subst w2
          have hfl := fact_le (n - 1 - i) (by omega)
          have hmul : (D : Int) * ((fact (n - 1 - i) : Nat) : Int) = ((D * fact (n - 1 - i) : Nat) : Int) := by rw [Int.natCast_mul]
          have hQ : D * fact (n - 1 - i) ≤ 12 * 479001600 := Nat.mul_le_mul (by omega) hfl
          generalize D * fact (n - 1 - i) = Q at *
          generalize fact (n - 1 - i) = F at *
          go_wp2_with fail
          go_roundw
          case rel => exact ⟨i + 1, _, by omega, by go_num, by rw [HNX.out]; go_num, rfl⟩
          case measure => simp [intOf]; omega
    · have hie : i = n := by omega
      subst i
      have hlt' : ¬ (n : Int) < (n : Int) := by omega
      go_wp2_with fail
      go_ret
      exact ⟨rfl, _, rfl⟩

end Go.Proofs.Ytdipbbcggccgcaa
