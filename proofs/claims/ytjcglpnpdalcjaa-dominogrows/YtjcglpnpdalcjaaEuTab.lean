/-
  Which sets can be laid, by reckoning; a raw number picks one of some. No conditions beyond those that each theorem bears.
-/
import Derived.Test.YtjcglpnpdalcjaaRowsLaw
import Derived.Test.YtjcglpnpdalcjaaSet
namespace Go.Proofs.Ytjcglpnpdalcjaa
open Go.RowKit

def lessOf (n k : Nat) : List Pc := (setL n).take k ++ (setL n).drop (k + 1)

theorem eu_len : (List.range 10).all (fun n => (setL n).length == (n + 1) * (n + 2) / 2 && decide ((setL n).length ≤ 55) && pcsB (setL n)) = true := by decide +kernel
theorem eu_set : (List.range 10).all (fun n => rcB (setL n) == (n % 2 == 0 || n == 1)) = true := by decide +kernel
theorem eu_less : (List.range 10).all (fun n => !(n % 2 == 0 && decide (0 < n)) || (List.range (setL n).length).all (fun k => rcB (lessOf n k) && pcsB (lessOf n k))) = true := by decide +kernel

theorem eu_at (n : Nat) (h : n < 10) : (setL n).length = (n + 1) * (n + 2) / 2 ∧ (setL n).length ≤ 55 ∧ pcsB (setL n) = true ∧ rcB (setL n) = (n % 2 == 0 || n == 1) := by
  have h1 := List.all_eq_true.1 eu_len n (List.mem_range.2 h)
  have h2 := List.all_eq_true.1 eu_set n (List.mem_range.2 h)
  simp only [Bool.and_eq_true, beq_iff_eq, decide_eq_true_iff] at h1 h2
  exact ⟨h1.1.1, h1.1.2, h1.2, h2⟩

theorem eu_less_at (n k : Nat) (h : n < 10) (h2 : n % 2 = 0) (h0 : 0 < n) (hk : k < (setL n).length) : rcB (lessOf n k) = true ∧ pcsB (lessOf n k) = true := by
  have h1 := List.all_eq_true.1 eu_less n (List.mem_range.2 h)
  rw [show (n % 2 == 0 && decide (0 < n)) = true by simp [h2, h0], Bool.not_true, Bool.false_or] at h1
  have h3 := List.all_eq_true.1 h1 k (List.mem_range.2 hk)
  rwa [Bool.and_eq_true] at h3

/-- Which of m things a raw number speaks of. -/
def pk (n : Int) (m : Nat) : Nat := (if n < 0 then -(n + 1) else n).toNat % m

theorem pk_lt (n : Int) (m : Nat) (h : 0 < m) : pk n m < m := Nat.mod_lt _ h

set_option maxHeartbeats 400000 in
theorem picked_any (n : Int) (m : Nat) (w : World) (h1 : -9223372036854775808 ≤ n) (h2 : n ≤ 9223372036854775807) (hm : 1 ≤ m) (hm2 : m ≤ 479001600) :
    Calls Try.prog 22 #[.int .i64 n, .int .i64 m] w fun e w' => e = .returned (.int .i64 (pk n m : Nat)) ∧ w' = w := by
  have hm' : ¬ (m : Int) = 0 := by omega
  by_cases hn : n < 0
  · obtain ⟨q, hq⟩ := Int.eq_ofNat_of_zero_le (show 0 ≤ -(n + 1) by omega)
    have HP : Hid (pk n m = q % m) := hide (by unfold pk; rw [if_pos hn, hq]; rfl)
    have e0 : n = -(q : Int) - 1 := by omega
    have hq2 : (q : Int) ≤ 9223372036854775807 := by omega
    subst e0
    have hmod : (q : Int) % (m : Int) = ((q % m : Nat) : Int) := by simp
    have hneg : -(-(q : Int) - 1 + 1) = (q : Int) := by omega
    generalize q % m = R at *
    clear hq
    go_enter Try.func22, Try.ntmps22
    go_wp2
    go_ret
    refine ⟨ret_intN ?_, rfl⟩
    rw [HP.out, ← hmod]
  · obtain ⟨q, rfl⟩ := Int.eq_ofNat_of_zero_le (show 0 ≤ n by omega)
    have HP : Hid (pk (q : Int) m = q % m) := hide (by unfold pk; rw [if_neg hn]; rfl)
    have hmod : (q : Int) % (m : Int) = ((q % m : Nat) : Int) := by simp
    generalize q % m = R at *
    go_enter Try.func22, Try.ntmps22
    go_wp2
    go_ret
    refine ⟨?_, rfl⟩
    rw [HP.out]
    rfl


end Go.Proofs.Ytjcglpnpdalcjaa
