/-
  Which boards may be: gammon.May. No conditions beyond those that each theorem bears.
-/
import Derived.Test.YtmboikpcbkiepaaSmall
namespace Go.Proofs.Ytmboikpcbkiepaa
open Go.RowKit

theorem sum_take (zs : List Int) (k : Nat) (hk : k < zs.length) : (zs.take (k + 1)).sum = (zs.take k).sum + zs.getD k 0 := by
  rw [List.take_succ_eq_append_getElem hk, List.sum_append]
  simp [List.getD, hk]

theorem sum_pos (zs : List Int) (h : ∀ z ∈ zs, 0 ≤ z) : 0 ≤ zs.sum := by
  induction zs with
  | nil => simp
  | cons z zs ih =>
    have := h z (by simp)
    have := ih (fun x hx => h x (by simp [hx]))
    simp
    omega

theorem sum_take_le (zs : List Int) (k : Nat) (h : ∀ z ∈ zs, 0 ≤ z) : (zs.take k).sum ≤ zs.sum := by
  have e : zs.sum = (zs.take k).sum + (zs.drop k).sum := by rw [← List.sum_append, List.take_append_drop]
  have := sum_pos (zs.drop k) (fun z hz => h z (List.mem_of_mem_drop hz))
  omega

theorem getD_mem {zs : List Int} {k : Nat} (hk : k < zs.length) : zs.getD k 0 ∈ zs := by
  simp [List.getD, hk]

def tmB (m : Int) (zs : List Int) : Bool := decide (m < zs.sum)

set_option maxHeartbeats 1000000 in
theorem tooMany_any (a : Option Addr) (n c : Nat) (zs : List Int) (m : Int) (hm : 0 ≤ m ∧ m ≤ 100) (w : World) (h : Rd w a n c zs) (hz : ∀ z ∈ zs, 0 ≤ z) (hn : n ≤ 100) :
    Calls Try.prog 26 #[.int .i64 m, .slice a n c] w fun e w' => e = .returned (.bool (tmB m zs)) ∧ w' = w := by
  have hlen := h.len
  have HH := hide h
  have HZ := hide hz
  clear h hz
  go_enter Try.func26, Try.ntmps26
  go_wp2_with fail
  go_loopw [0, 9] (fun v0 v9 wr => ∃ (k : Nat), v9 = .int .i64 k ∧ k ≤ n ∧ v0 = .int .i64 (m - (zs.take k).sum) ∧ 0 ≤ m - (zs.take k).sum ∧ wr = w) (fun _ v9 _ => n - (intOf v9).toNat)
  case atStart => exact ⟨0, rfl, by omega, by simp, by simp; omega, rfl⟩
  case round =>
    obtain ⟨k, rfl, hk, rfl, hs, hwr⟩ := hrel
    subst wr
    by_cases hkn : k < n
    · obtain ⟨b, off, rfl, hc⟩ := HH.out.cells (by omega)
      have c1 := hc k hkn
      have hbs : b < w.heap.size := World.block_lt_of_cell? w _ c1
      have hst := sum_take zs k (by omega)
      have hsl := sum_take_le zs (k + 1) HZ.out
      have hsp := HZ.out _ (getD_mem (zs := zs) (k := k) (by omega))
      have hs0 : 0 ≤ (zs.take k).sum := sum_pos _ (fun z hz => HZ.out z (List.mem_of_mem_take hz))
      have HT := hide (show tmB m zs = decide (m < zs.sum) from rfl)
      generalize zs.getD k 0 = z at *
      generalize hS1 : (zs.take (k + 1)).sum = S1 at *
      generalize hS0 : (zs.take k).sum = S0 at *
      generalize zs.sum = S at *
      have hlt : (k : Int) < (n : Int) := by omega
      have HS1 := hide hS1
      clear hc hS1 hS0
      by_cases hgt : m - S0 < z
      · have HB : Hid (tmB m zs = true) := hide (by rw [HT.out]; simp; omega)
        clear hst hsl
        go_wp2
        go_ret
        exact ⟨ret_bool HB.out.symm, rfl⟩
      · have hgt' : decide (m - S0 < z) = false := by simpa using hgt
        have hgi : ¬ z > m - S0 := by omega
        go_wp2
        refine ⟨⟨k + 1, rfl, by omega, ?_, by rw [HS1.out]; omega, trivial⟩, by simp [intOf]; omega⟩
        rw [HS1.out]
        go_num
    · obtain rfl : k = n := by omega
      have hlt : ¬ (k : Int) < (k : Int) := by omega
      have HB : Hid (tmB m zs = false) := hide (by unfold tmB; rw [List.take_of_length_le (by omega)] at hs; simp; omega)
      clear hs
      go_wp2
      go_ret
      exact ⟨ret_bool HB.out.symm, rfl⟩

end Go.Proofs.Ytmboikpcbkiepaa
