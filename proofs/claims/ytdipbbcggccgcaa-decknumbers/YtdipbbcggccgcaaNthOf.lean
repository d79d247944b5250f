/-
  What the document's own NthOf answers: the order that 'nthSt' makes, step by step. No conditions beyond those that each theorem bears.
-/
import Derived.Test.YtdipbbcggccgcaaSign3
namespace Go.Proofs.Ytdipbbcggccgcaa
open Go.RowKit

def lenOf : Value → Nat
  | .slice _ n _ => n
  | _ => 0

/-- A slice of one number in a new block. -/
theorem Rd_one (w : World) (x : Int) : Rd (w.alloc (.cells #[.int .i64 x] 3)) (some ⟨w.heap.size, 0, none⟩) 1 1 [x] := by
  refine ⟨rfl, Nat.le_refl _, by unfold maxLen; omega, (fun h => by simp at h), fun _ => ⟨w.heap.size, 0, rfl, fun i hi => ?_⟩⟩
  obtain rfl : i = 0 := by omega
  simp

theorem slice_form {w : World} {base : Nat} {v : Value} {n : Nat} {xs : List Value} (h : w.ownsRow base 3 1 v n xs) : ∃ a c, v = .slice a n c := by
  rcases h.2 with ⟨hv, h0⟩ | ⟨g, cap, cur, hv, _⟩
  · exact ⟨none, 0, by rw [hv, h0]⟩
  · exact ⟨_, _, hv⟩

set_option maxHeartbeats 1000000 in
theorem NthOf_any (n k : Nat) (w : World) (hn : n ≤ 12) (hk : k < fact n) :
    Calls Try.prog 27 #[.int .i64 n, .int .i64 k] w fun e w' => ∃ a' c', e = .returned (.slice a' n c') ∧ Rd w' a' n c' (nthSt n k n).1 ∧ Below w.heap.size w w' := by
  go_enter Try.func27, Try.ntmps27
  go_wp2_with fail
  go_loopw [1, 5] (fun kk l wr => ∃ (i : Nat) (a : Option Addr) (c : Nat), i ≤ n ∧ kk = .int .i64 ((nthSt n k i).2 : Nat) ∧ l = .slice a i c ∧ wr.ownsRow w.heap.size 3 1 (.slice a i c) i ((nthSt n k i).1.map (Value.int .i64)) ∧ Below w.heap.size w wr) (fun _ l _ => n - lenOf l)
  case atStart => exact ⟨0, none, 0, by omega, rfl, rfl, World.ownsRow_nil _ _ _ _, Below.refl _ _⟩
  case round =>
    obtain ⟨i, a, c, hi, rfl, rfl, hown, hbel⟩ := hrel
    have HL := hide (leftOf_length n k i hi hk)
    have HNL := hide (nth_length n k i)
    by_cases hil : i < n
    · have hil' : (i : Int) < (n : Int) := by omega
      have HAT := hide (at_lt n k i hil hk)
      have HST : Hid (nthSt n k (i + 1) = nthStep n (nthSt n k i)) := rfl
      have hKb : (nthSt n k i).2 ≤ 479001600 := by
        have h1 := HL.out.2
        have h2 := fact_le (n - i) (by omega)
        omega
      obtain ⟨⟨out, K⟩, hst⟩ : ∃ s, s = nthSt n k i := ⟨_, rfl⟩
      rw [← hst] at HL HNL HAT HST hKb hown ⊢
      simp only at HL HNL HAT hKb hown ⊢
      have HO := hide hown
      have HB := hide hbel
      clear hst hown hbel
      go_wp2_with fail
      refine (factRef_any _ (n - 1 - i) (by omega) _ (by omega)).mono ?_
      rintro e w2 ⟨rfl, hw⟩
      subst w2
      have hF := fact_pos (n - 1 - i)
      have hF2 := fact_le (n - 1 - i) (by omega)
      have hq : (K : Int) / ((fact (n - 1 - i) : Nat) : Int) = ((K / fact (n - 1 - i) : Nat) : Int) := by simp
      have hr : (K : Int) % ((fact (n - 1 - i) : Nat) : Int) = ((K % fact (n - 1 - i) : Nat) : Int) := by simp
      have hal : K / fact (n - 1 - i) < n - i := HAT.out
      have hSTe : Hid (nthSt n k (i + 1) = (out ++ [(leftOf n out).getD (K / fact (n - 1 - i)) 0], K % fact (n - 1 - i))) := hide (by rw [HST.out, nthStep]; simp only [HNL.out])
      have hrl : K % fact (n - 1 - i) < fact (n - 1 - i) := Nat.mod_lt _ hF
      generalize K / fact (n - 1 - i) = A at *
      generalize K % fact (n - 1 - i) = K' at *
      generalize fact (n - 1 - i) = F at *
      have hF' : ¬ (F : Int) = 0 := by omega
      go_wp2_with fail
      rw [hr]
      clear hr hq
      obtain ⟨wo, hwo⟩ : ∃ wo : World, wo = wr := ⟨_, rfl⟩
      subst wr
      go_loopw [5, 7, 8] (fun l s x ws => ∃ t : Nat, t ≤ n ∧ l = .slice a i c ∧ x = .int .i64 t ∧ free out t ≤ A ∧ s = .int .i64 ((A : Int) - (free out t : Nat)) ∧ ws = wo) (fun _ _ x _ => n - (intOf x).toNat)
      case atStart => exact ⟨0, by omega, rfl, rfl, Nat.zero_le _, by simp [free, leftOf, ident], rfl⟩
      case round =>
        obtain ⟨t, ht, rfl, rfl, hfr, rfl, hws⟩ := hrel
        subst wr
        by_cases htl : t < n
        · have htl' : (t : Int) < (n : Int) := by omega
          go_wp2_with fail
          refine (at_any _ _ _ out (t : Int) _ (Rd.of_own HO.out)).mono ?_
          rintro e w2 ⟨r, rfl, hr2, hw⟩
          subst w2
          by_cases hm : (t : Int) ∈ out
          · have hr0 : 0 ≤ r := hr2.2 hm
            have HFI := hide (free_in out t hm)
            have hfr2 : free out (t + 1) ≤ A := by rw [HFI.out]; exact hfr
            have HFR := hide hfr2
            clear hr2 hm hfr2
            go_wp2_with fail
            go_roundw
            case rel => exact ⟨t + 1, by omega, rfl, by go_num, HFR.out, by rw [HFI.out], by trivial⟩
            case measure => simp [intOf]; omega
          · have hr0 : r < 0 := by
              rcases Int.lt_or_le r 0 with h | h
              · exact h
              · exact absurd (hr2.1 h) hm
            have HFN := hide (free_not out t hm)
            have HLA := hide (leftOf_at out t n htl hm)
            clear hr2 hm
            by_cases hz : free out t = A
            · have hz' : ((A : Int) - ((free out t : Nat) : Int) == 0) = true := by rw [hz]; simp
              rw [hz] at HLA
              rw [HLA.out] at hSTe
              clear hz
              go_wp2_with (at_builtin; refine wpList_append_rd _ rfl (.tmp 36) (.tmp 38) rfl w.heap.size _ i out rfl (HO.out.alloc _) _ 1 1 [(t : Int)] rfl (Rd_one _ _) (by omega) (by have := HB.out.size; simp; omega) ?_)
              intro v' w' hO' hG'
              obtain ⟨a', c', hv'⟩ := slice_form hO'
              rw [hv'] at hO' ⊢
              have hb0 : Below w.heap.size w (wo.alloc (.cells #[.int .i64 (t : Int)] 3)) := HB.out.alloc HB.out.size _
              have HB' := hide (hb0.grown hG' hb0.size (fun j hj => (HO.out.lt j hj).1))
              have HO' := hide hO'
              clear hO' hG' hb0 hv'
              go_wp2_with fail
              go_roundw
              case rel => exact ⟨i + 1, a', c', by omega, by rw [hSTe.out], rfl, by rw [hSTe.out]; simpa using HO'.out, HB'.out⟩
              case measure => simp [lenOf]; omega
            · have hz' : ((A : Int) - ((free out t : Nat) : Int) == 0) = false := by simp; omega
              have hfr2 : free out (t + 1) ≤ A := by rw [HFN.out]; omega
              have HFR := hide hfr2
              clear hfr2
              go_wp2_with fail
              go_roundw
              case rel => exact ⟨t + 1, by omega, rfl, by go_num, HFR.out, by rw [HFN.out]; go_num, by trivial⟩
              case measure => simp [intOf]; omega
        · have hte : t = n := by omega
          subst t
          exfalso
          have := HL.out.1
          unfold free at hfr
          omega
    · have hie : i = n := by omega
      subst i
      have hlt' : ¬ (n : Int) < (n : Int) := by omega
      have HR := hide (Rd.of_own hown)
      clear hown
      go_wp2_with fail
      go_ret
      exact ⟨_, _, rfl, HR.out, hbel⟩

end Go.Proofs.Ytdipbbcggccgcaa
