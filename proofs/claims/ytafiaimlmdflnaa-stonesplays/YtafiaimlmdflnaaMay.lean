/-
  Which boards may be: rows.May and the document's own GridMay. No conditions beyond those that each theorem bears.
-/
import Derived.Test.YtafiaimlmdflnaaGd
namespace Go.Proofs.Ytafiaimlmdflnaa
open Go.RowKit

/-- A board that may be. -/
def mayP (W H : Int) (zs : List Int) : Prop := 1 ≤ W ∧ W ≤ 10 ∧ 1 ≤ H ∧ H ≤ 10 ∧ (zs.length : Int) = W * H ∧ ∀ z, z ∈ zs → 0 ≤ z ∧ z ≤ 2

instance (W H : Int) (zs : List Int) : Decidable (mayP W H zs) := by unfold mayP; infer_instance

def mayG (W H : Int) (zs : List Int) : Bool := decide (mayP W H zs)

theorem isSide_any (x : Int) (w : World) : Calls Try.prog 47 #[.int .i64 x] w fun e w' => e = .returned (.bool (decide (1 ≤ x ∧ x ≤ 10))) ∧ w' = w := by
  by_cases h1 : 1 ≤ x
  · by_cases h2 : x ≤ 10
    · go_enter Try.func47, Try.ntmps47
      go_wp2
      go_ret
      exact ⟨ret_bool (by simp [h1, h2]), rfl⟩
    · go_enter Try.func47, Try.ntmps47
      go_wp2
      go_ret
      exact ⟨ret_bool (by simp [h2]), rfl⟩
  · go_enter Try.func47, Try.ntmps47
    go_wp2
    go_ret
    exact ⟨ret_bool (by simp; omega), rfl⟩

theorem within_any (x lo hi : Int) (w : World) : Calls Try.prog 37 #[.int .i64 x, .int .i64 lo, .int .i64 hi] w fun e w' => e = .returned (.bool (decide (lo ≤ x ∧ x ≤ hi))) ∧ w' = w := by
  by_cases h1 : lo ≤ x
  · by_cases h2 : x ≤ hi
    · go_enter Try.func37, Try.ntmps37
      go_wp2
      go_ret
      exact ⟨ret_bool (by simp [h1, h2]), rfl⟩
    · go_enter Try.func37, Try.ntmps37
      go_wp2
      go_ret
      exact ⟨ret_bool (by simp [h2]), rfl⟩
  · go_enter Try.func37, Try.ntmps37
    go_wp2
    go_ret
    exact ⟨ret_bool (by simp; omega), rfl⟩

theorem mayG_no {W H : Int} {zs : List Int} (h : ¬ mayP W H zs) : mayG W H zs = false := decide_eq_false h
theorem mayG_yes {W H : Int} {zs : List Int} (h : mayP W H zs) : mayG W H zs = true := decide_eq_true h

set_option maxHeartbeats 2000000 in
theorem May_any (W H : Int) (a : Option Addr) (n c : Nat) (zs : List Int) (w : World) (h : Rd w a n c zs) :
    Calls Try.prog 29 #[.agg (gdA W H a n c)] w fun e w' => e = .returned (.bool (mayG W H zs)) ∧ Below w.heap.size w w' := by
  have hlen := h.len
  have hcm := h.max
  have hcn := h.cap
  unfold maxLen at hcm
  by_cases hW : 1 ≤ W ∧ W ≤ 10
  rotate_left
  · have HV : Hid (mayG W H zs = false) := hide (mayG_no (fun hm => hW ⟨hm.1, hm.2.1⟩))
    have hd : decide (1 ≤ W ∧ W ≤ 10) = false := decide_eq_false hW
    clear h hW hlen
    go_enter Try.func29, Try.ntmps29
    go_wp2_with fail
    refine (isSide_any W _).mono ?_
    rintro e wx ⟨rfl, hwx⟩
    subst wx
    rw [hd]
    go_wp2_with fail
    go_ret
    exact ⟨ret_bool HV.out.symm, (Below.refl _ _).alloc (Nat.le_refl _) _⟩
  have hdW : decide (1 ≤ W ∧ W ≤ 10) = true := decide_eq_true hW
  by_cases hH : 1 ≤ H ∧ H ≤ 10
  rotate_left
  · have HV : Hid (mayG W H zs = false) := hide (mayG_no (fun hm => hH ⟨hm.2.2.1, hm.2.2.2.1⟩))
    have hd : decide (1 ≤ H ∧ H ≤ 10) = false := decide_eq_false hH
    clear h hW hH hlen
    go_enter Try.func29, Try.ntmps29
    go_wp2_with fail
    refine (isSide_any W _).mono ?_
    rintro e wx ⟨rfl, hwx⟩
    subst wx
    rw [hdW]
    go_wp2_with fail
    refine (isSide_any H _).mono ?_
    rintro e wx ⟨rfl, hwx⟩
    subst wx
    rw [hd]
    go_wp2_with fail
    go_ret
    exact ⟨ret_bool HV.out.symm, (Below.refl _ _).alloc (Nat.le_refl _) _⟩
  have hdH : decide (1 ≤ H ∧ H ≤ 10) = true := decide_eq_true hH
  obtain ⟨A, hA⟩ : ∃ A, W * H = A := ⟨_, rfl⟩
  have hAb : 0 ≤ A ∧ A ≤ 100 := by
    have h1 : 0 ≤ W * H := Int.mul_nonneg (by omega) (by omega)
    have h2 : W * H ≤ 10 * H := Int.mul_le_mul_of_nonneg_right hW.2 (by omega)
    omega
  by_cases hl : (n : Int) = A
  rotate_left
  · have HV : Hid (mayG W H zs = false) := hide (mayG_no (fun hm => hl (by rw [← hA, ← hm.2.2.2.2.1, hlen])))
    have hne : ((n : Int) != A) = true := by simpa using hl
    clear h hlen hl
    go_enter Try.func29, Try.ntmps29
    go_wp2_with fail
    refine (isSide_any W _).mono ?_
    rintro e wx ⟨rfl, hwx⟩
    subst wx
    rw [hdW]
    go_wp2_with fail
    refine (isSide_any H _).mono ?_
    rintro e wx ⟨rfl, hwx⟩
    subst wx
    rw [hdH]
    clear hdW hdH hW hH
    go_wp2_with fail
    go_ret
    exact ⟨ret_bool HV.out.symm, (Below.refl _ _).alloc (Nat.le_refl _) _⟩
  have hl' : (zs.length : Int) = W * H := by rw [hA, hlen]; exact hl
  have hne : ((n : Int) != A) = false := by simpa using hl
  have hn1 : 0 < n := by
    have h1 : 1 * 1 ≤ W * H := Int.mul_le_mul hW.1 hH.1 (by omega) (by omega)
    omega
  obtain ⟨b, off, rfl, hc⟩ := h.cells hn1
  have HL := hide hlen
  have HLP := hide hl'
  have hgb : b < w.heap.size := World.block_lt_of_cell? w _ (hc 0 hn1)
  obtain ⟨w1, hw1⟩ : ∃ w1, w.alloc (.cells (gdA W H (some ⟨b, off, none⟩) n c) 24) = w1 := ⟨_, rfl⟩
  have HC : Hid (∀ i, i < n → w1.cell? ⟨b, off + i, none⟩ = some (.int .i64 (zs.getD i 0))) := hide (fun i hi => by
    rw [← hw1]
    exact ((Below.refl w.heap.size w).alloc (Nat.le_refl _) _ |>.cell (p := ⟨b, off + i, none⟩) hgb).trans (hc i hi))
  have HB : Hid (Below w.heap.size w w1) := hide (by rw [← hw1]; exact (Below.refl _ _).alloc (Nat.le_refl _) _)
  obtain ⟨g0, g1, g2⟩ := (show Gd w1 w.heap.size W H (some ⟨b, off, none⟩) n c by rw [← hw1]; exact Gd.new _ _ _ _ _ _).cells
  have HW1 := hide hw1
  clear h hc hlen hl' hl
  go_enter Try.func29, Try.ntmps29
  go_upto_region 1 with fail
  clear hw1 HW1
  go_wp2_with fail
  refine (isSide_any W _).mono ?_
  rintro e wx ⟨rfl, hwx⟩
  subst wx
  rw [hdW]
  go_wp2_with fail
  refine (isSide_any H _).mono ?_
  rintro e wx ⟨rfl, hwx⟩
  subst wx
  rw [hdH]
  have hA' := hA
  have HH := hide (And.intro hW hH)
  clear hdW hdH hW hH
  go_wp2_with fail
  obtain ⟨hW, hH⟩ := HH.out
  have hl' := HLP.out
  clear hA hA' HLP hne HH
  go_loopw [29] (fun v wr => ∃ k : Nat, v = .int .i64 k ∧ k ≤ n ∧ Hid (∀ i, i < k → 0 ≤ zs.getD i 0 ∧ zs.getD i 0 ≤ 2) ∧ w1 = wr) (fun v _ => n - (intOf v).toNat)
  case atStart => exact ⟨0, rfl, by omega, hide (fun i hi => absurd hi (by omega)), rfl⟩
  case round =>
    obtain ⟨k, rfl, hk, hall, rfl⟩ := hrel
    by_cases hlt : k < n
    · have hlt' : (k : Int) < (n : Int) := by omega
      have hcell := HC.out k hlt
      have HNX : Hid (0 ≤ zs.getD k 0 ∧ zs.getD k 0 ≤ 2 → ∀ i, i < k + 1 → 0 ≤ zs.getD i 0 ∧ zs.getD i 0 ≤ 2) := hide (fun h i hi => by
        by_cases e : i = k
        · subst e; exact h
        · exact hall.out i (by omega))
      have HVN : Hid (¬ (0 ≤ zs.getD k 0 ∧ zs.getD k 0 ≤ 2) → mayG W H zs = false) := hide (fun h => mayG_no (fun hm => h (hm.2.2.2.2.2 _ (getD_mem (by rw [HL.out]; exact hlt)))))
      generalize zs.getD k 0 = x at *
      by_cases hx0 : x < 0
      · have HV := hide (HVN.out (by omega))
        go_wp2_with fail
        go_ret
        exact ⟨ret_bool HV.out.symm, HB.out⟩
      · by_cases hx2 : 2 < x
        · have HV := hide (HVN.out (by omega))
          go_wp2_with fail
          go_ret
          exact ⟨ret_bool HV.out.symm, HB.out⟩
        · have HN := hide (HNX.out (by omega))
          go_wp2_with fail
          exact ⟨⟨k + 1, by go_num, by omega, HN, trivial⟩, by simp [intOf]; omega⟩
    · have hlt' : ¬ (k : Int) < (n : Int) := by omega
      have HV : Hid (mayG W H zs = true) := hide (mayG_yes ⟨hW.1, hW.2, hH.1, hH.2, hl', fun z hz => by
        obtain ⟨i, hi, rfl⟩ := List.getElem_of_mem hz
        have := hall.out i (by have := HL.out; omega)
        simpa [List.getD, hi] using this⟩)
      go_wp2_with fail
      go_ret
      exact ⟨ret_bool HV.out.symm, HB.out⟩

set_option maxHeartbeats 2000000 in
theorem GridMay_any (W H : Int) (a : Option Addr) (n c : Nat) (zs : List Int) (w : World) (h : Rd w a n c zs) :
    Calls Try.prog 12 #[.agg (gdA W H a n c)] w fun e w' => e = .returned (.bool (mayG W H zs)) ∧ Below w.heap.size w w' := by
  have hlen := h.len
  have hcm := h.max
  have hcn := h.cap
  unfold maxLen at hcm
  by_cases hW : 1 ≤ W ∧ W ≤ 10
  rotate_left
  · have HV : Hid (mayG W H zs = false) := hide (mayG_no (fun hm => hW ⟨hm.1, hm.2.1⟩))
    have hd : decide (1 ≤ W ∧ W ≤ 10) = false := decide_eq_false hW
    clear h hW hlen
    go_enter Try.func12, Try.ntmps12
    go_wp2_with fail
    refine (within_any W 1 10 _).mono ?_
    rintro e wx ⟨rfl, hwx⟩
    subst wx
    rw [hd]
    go_wp2_with fail
    go_ret
    exact ⟨ret_bool HV.out.symm, (Below.refl _ _).alloc (Nat.le_refl _) _⟩
  have hdW : decide (1 ≤ W ∧ W ≤ 10) = true := decide_eq_true hW
  by_cases hH : 1 ≤ H ∧ H ≤ 10
  rotate_left
  · have HV : Hid (mayG W H zs = false) := hide (mayG_no (fun hm => hH ⟨hm.2.2.1, hm.2.2.2.1⟩))
    have hd : decide (1 ≤ H ∧ H ≤ 10) = false := decide_eq_false hH
    clear h hW hH hlen
    go_enter Try.func12, Try.ntmps12
    go_wp2_with fail
    refine (within_any W 1 10 _).mono ?_
    rintro e wx ⟨rfl, hwx⟩
    subst wx
    rw [hdW]
    go_wp2_with fail
    refine (within_any H 1 10 _).mono ?_
    rintro e wx ⟨rfl, hwx⟩
    subst wx
    rw [hd]
    go_wp2_with fail
    go_ret
    exact ⟨ret_bool HV.out.symm, (Below.refl _ _).alloc (Nat.le_refl _) _⟩
  have hdH : decide (1 ≤ H ∧ H ≤ 10) = true := decide_eq_true hH
  obtain ⟨A, hA⟩ : ∃ A, W * H = A := ⟨_, rfl⟩
  have hAb : 0 ≤ A ∧ A ≤ 100 := by
    have h1 : 0 ≤ W * H := Int.mul_nonneg (by omega) (by omega)
    have h2 : W * H ≤ 10 * H := Int.mul_le_mul_of_nonneg_right hW.2 (by omega)
    omega
  by_cases hl : (n : Int) = A
  rotate_left
  · have HV : Hid (mayG W H zs = false) := hide (mayG_no (fun hm => hl (by rw [← hA, ← hm.2.2.2.2.1, hlen])))
    have hne : ((n : Int) != A) = true := by simpa using hl
    clear h hlen hl
    go_enter Try.func12, Try.ntmps12
    go_wp2_with fail
    refine (within_any W 1 10 _).mono ?_
    rintro e wx ⟨rfl, hwx⟩
    subst wx
    rw [hdW]
    go_wp2_with fail
    refine (within_any H 1 10 _).mono ?_
    rintro e wx ⟨rfl, hwx⟩
    subst wx
    rw [hdH]
    clear hdW hdH hW hH
    go_wp2_with fail
    go_ret
    exact ⟨ret_bool HV.out.symm, (Below.refl _ _).alloc (Nat.le_refl _) _⟩
  have hl' : (zs.length : Int) = W * H := by rw [hA, hlen]; exact hl
  have hne : ((n : Int) != A) = false := by simpa using hl
  have hn1 : 0 < n := by
    have h1 : 1 * 1 ≤ W * H := Int.mul_le_mul hW.1 hH.1 (by omega) (by omega)
    omega
  obtain ⟨b, off, rfl, hc⟩ := h.cells hn1
  have HL := hide hlen
  have HLP := hide hl'
  have hgb : b < w.heap.size := World.block_lt_of_cell? w _ (hc 0 hn1)
  obtain ⟨w1, hw1⟩ : ∃ w1, w.alloc (.cells (gdA W H (some ⟨b, off, none⟩) n c) 24) = w1 := ⟨_, rfl⟩
  have HC : Hid (∀ i, i < n → w1.cell? ⟨b, off + i, none⟩ = some (.int .i64 (zs.getD i 0))) := hide (fun i hi => by
    rw [← hw1]
    exact ((Below.refl w.heap.size w).alloc (Nat.le_refl _) _ |>.cell (p := ⟨b, off + i, none⟩) hgb).trans (hc i hi))
  have HB : Hid (Below w.heap.size w w1) := hide (by rw [← hw1]; exact (Below.refl _ _).alloc (Nat.le_refl _) _)
  obtain ⟨g0, g1, g2⟩ := (show Gd w1 w.heap.size W H (some ⟨b, off, none⟩) n c by rw [← hw1]; exact Gd.new _ _ _ _ _ _).cells
  have HW1 := hide hw1
  clear h hc hlen hl' hl
  go_enter Try.func12, Try.ntmps12
  go_upto_region 1 with fail
  clear hw1 HW1
  go_wp2_with fail
  refine (within_any W 1 10 _).mono ?_
  rintro e wx ⟨rfl, hwx⟩
  subst wx
  rw [hdW]
  go_wp2_with fail
  refine (within_any H 1 10 _).mono ?_
  rintro e wx ⟨rfl, hwx⟩
  subst wx
  rw [hdH]
  have hA' := hA
  have HH := hide (And.intro hW hH)
  clear hdW hdH hW hH
  go_wp2_with fail
  obtain ⟨hW, hH⟩ := HH.out
  have hl' := HLP.out
  clear hA hA' HLP hne HH
  go_loopw [3] (fun v wr => ∃ k : Nat, v = .int .i64 k ∧ k ≤ n ∧ Hid (∀ i, i < k → 0 ≤ zs.getD i 0 ∧ zs.getD i 0 ≤ 2) ∧ w1 = wr) (fun v _ => n - (intOf v).toNat)
  case atStart => exact ⟨0, rfl, by omega, hide (fun i hi => absurd hi (by omega)), rfl⟩
  case round =>
    obtain ⟨k, rfl, hk, hall, rfl⟩ := hrel
    by_cases hlt : k < n
    · have hlt' : (k : Int) < (n : Int) := by omega
      have hcell := HC.out k hlt
      have HNX : Hid (0 ≤ zs.getD k 0 ∧ zs.getD k 0 ≤ 2 → ∀ i, i < k + 1 → 0 ≤ zs.getD i 0 ∧ zs.getD i 0 ≤ 2) := hide (fun h i hi => by
        by_cases e : i = k
        · subst e; exact h
        · exact hall.out i (by omega))
      have HVN : Hid (¬ (0 ≤ zs.getD k 0 ∧ zs.getD k 0 ≤ 2) → mayG W H zs = false) := hide (fun h => mayG_no (fun hm => h (hm.2.2.2.2.2 _ (getD_mem (by rw [HL.out]; exact hlt)))))
      generalize zs.getD k 0 = x at *
      by_cases hx : 0 ≤ x ∧ x ≤ 2
      · have HN := hide (HNX.out hx)
        have hd : decide (0 ≤ x ∧ x ≤ 2) = true := decide_eq_true hx
        clear hx
        go_wp2_with fail
        refine (within_any x 0 2 _).mono ?_
        rintro e wx ⟨rfl, hwx⟩
        subst wx
        rw [hd]
        go_wp2_with fail
        exact ⟨⟨k + 1, by go_num, by omega, HN, trivial⟩, by simp [intOf]; omega⟩
      · have HV := hide (HVN.out hx)
        have hd : decide (0 ≤ x ∧ x ≤ 2) = false := decide_eq_false hx
        clear hx
        go_wp2_with fail
        refine (within_any x 0 2 _).mono ?_
        rintro e wx ⟨rfl, hwx⟩
        subst wx
        rw [hd]
        go_wp2_with fail
        go_ret
        exact ⟨ret_bool HV.out.symm, HB.out⟩
    · have hlt' : ¬ (k : Int) < (n : Int) := by omega
      have HV : Hid (mayG W H zs = true) := hide (mayG_yes ⟨hW.1, hW.2, hH.1, hH.2, hl', fun z hz => by
        obtain ⟨i, hi, rfl⟩ := List.getElem_of_mem hz
        have := hall.out i (by have := HL.out; omega)
        simpa [List.getD, hi] using this⟩)
      go_wp2_with fail
      go_ret
      exact ⟨ret_bool HV.out.symm, HB.out⟩

end Go.Proofs.Ytafiaimlmdflnaa
