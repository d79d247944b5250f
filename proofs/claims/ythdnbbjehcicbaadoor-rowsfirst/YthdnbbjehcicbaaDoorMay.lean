/-
  Which boards may be: rows.May, rows.fault, and the document's own GridMay. No conditions beyond those that each theorem bears.
-/
import Derived.Test.YthdnbbjehcicbaaDoorGd
namespace Go.Proofs.YthdnbbjehcicbaaDoor
open Go.RowKit

/-- A board that may be. -/
def mayP (W H : Int) (zs : List Int) : Prop := 1 ≤ W ∧ W ≤ 10 ∧ 1 ≤ H ∧ H ≤ 10 ∧ (zs.length : Int) = W * H ∧ ∀ z, z ∈ zs → 0 ≤ z ∧ z ≤ 2

instance (W H : Int) (zs : List Int) : Decidable (mayP W H zs) := by unfold mayP; infer_instance

def mayG (W H : Int) (zs : List Int) : Bool := decide (mayP W H zs)

theorem isSide_any (x : Int) (w : World) : Calls Tryd.prog 37 #[.int .i64 x] w fun e w' => e = .returned (.bool (decide (1 ≤ x ∧ x ≤ 10))) ∧ w' = w := by
  by_cases h1 : 1 ≤ x
  · by_cases h2 : x ≤ 10
    · go_enter Tryd.func37, Tryd.ntmps37
      go_wp2
      go_ret
      exact ⟨ret_bool (by simp [h1, h2]), rfl⟩
    · go_enter Tryd.func37, Tryd.ntmps37
      go_wp2
      go_ret
      exact ⟨ret_bool (by simp [h2]), rfl⟩
  · go_enter Tryd.func37, Tryd.ntmps37
    go_wp2
    go_ret
    exact ⟨ret_bool (by simp; omega), rfl⟩

theorem within_any (x lo hi : Int) (w : World) : Calls Tryd.prog 26 #[.int .i64 x, .int .i64 lo, .int .i64 hi] w fun e w' => e = .returned (.bool (decide (lo ≤ x ∧ x ≤ hi))) ∧ w' = w := by
  by_cases h1 : lo ≤ x
  · by_cases h2 : x ≤ hi
    · go_enter Tryd.func26, Tryd.ntmps26
      go_wp2
      go_ret
      exact ⟨ret_bool (by simp [h1, h2]), rfl⟩
    · go_enter Tryd.func26, Tryd.ntmps26
      go_wp2
      go_ret
      exact ⟨ret_bool (by simp [h2]), rfl⟩
  · go_enter Tryd.func26, Tryd.ntmps26
    go_wp2
    go_ret
    exact ⟨ret_bool (by simp; omega), rfl⟩

theorem mayG_no {W H : Int} {zs : List Int} (h : ¬ mayP W H zs) : mayG W H zs = false := decide_eq_false h
theorem mayG_yes {W H : Int} {zs : List Int} (h : mayP W H zs) : mayG W H zs = true := decide_eq_true h

set_option maxHeartbeats 2000000 in
theorem May_any (W H : Int) (a : Option Addr) (n c : Nat) (zs : List Int) (w : World) (h : Rd w a n c zs) :
    Calls Tryd.prog 17 #[.agg (gdA W H a n c)] w fun e w' => e = .returned (.bool (mayG W H zs)) ∧ Below w.heap.size w w' := by
  have hlen := h.len
  have hcm := h.max
  have hcn := h.cap
  unfold maxLen at hcm
  by_cases hW : 1 ≤ W ∧ W ≤ 10
  rotate_left
  · have HV : Hid (mayG W H zs = false) := hide (mayG_no (fun hm => hW ⟨hm.1, hm.2.1⟩))
    have hd : decide (1 ≤ W ∧ W ≤ 10) = false := decide_eq_false hW
    clear h hW hlen
    go_enter Tryd.func17, Tryd.ntmps17
    go_wp2_with fail
    refine (isSide_any W _).mono ?_
    rintro e wx ⟨rfl, hwx⟩
    subst wx
    rw [hd]
    go_wp2_with fail
    go_ret
    exact ⟨ret_bool HV.out.symm, (Below.refl _ _).alloc (Nat.le_refl _) _⟩
  have hdW : decide (1 ≤ W ∧ W ≤ 10) = true := decide_eq_true hW
  by_cases hH : 1 ≤ H ∧ H ≤ 10
  rotate_left
  · have HV : Hid (mayG W H zs = false) := hide (mayG_no (fun hm => hH ⟨hm.2.2.1, hm.2.2.2.1⟩))
    have hd : decide (1 ≤ H ∧ H ≤ 10) = false := decide_eq_false hH
    clear h hW hH hlen
    go_enter Tryd.func17, Tryd.ntmps17
    go_wp2_with fail
    refine (isSide_any W _).mono ?_
    rintro e wx ⟨rfl, hwx⟩
    subst wx
    rw [hdW]
    go_wp2_with fail
    refine (isSide_any H _).mono ?_
    rintro e wx ⟨rfl, hwx⟩
    subst wx
    rw [hd]
    go_wp2_with fail
    go_ret
    exact ⟨ret_bool HV.out.symm, (Below.refl _ _).alloc (Nat.le_refl _) _⟩
  have hdH : decide (1 ≤ H ∧ H ≤ 10) = true := decide_eq_true hH
  obtain ⟨A, hA⟩ : ∃ A, W * H = A := ⟨_, rfl⟩
  have hAb : 0 ≤ A ∧ A ≤ 100 := by
    have h1 : 0 ≤ W * H := Int.mul_nonneg (by omega) (by omega)
    have h2 : W * H ≤ 10 * H := Int.mul_le_mul_of_nonneg_right hW.2 (by omega)
    omega
  by_cases hl : (n : Int) = A
  rotate_left
  · have HV : Hid (mayG W H zs = false) := hide (mayG_no (fun hm => hl (by rw [← hA, ← hm.2.2.2.2.1, hlen])))
    have hne : ((n : Int) != A) = true := by simpa using hl
    clear h hlen hl
    go_enter Tryd.func17, Tryd.ntmps17
    go_wp2_with fail
    refine (isSide_any W _).mono ?_
    rintro e wx ⟨rfl, hwx⟩
    subst wx
    rw [hdW]
    go_wp2_with fail
    refine (isSide_any H _).mono ?_
    rintro e wx ⟨rfl, hwx⟩
    subst wx
    rw [hdH]
    clear hdW hdH hW hH
    go_wp2_with fail
    go_ret
    exact ⟨ret_bool HV.out.symm, (Below.refl _ _).alloc (Nat.le_refl _) _⟩
  have hl' : (zs.length : Int) = W * H := by rw [hA, hlen]; exact hl
  have hne : ((n : Int) != A) = false := by simpa using hl
  have hn1 : 0 < n := by
    have h1 : 1 * 1 ≤ W * H := Int.mul_le_mul hW.1 hH.1 (by omega) (by omega)
    omega
  obtain ⟨b, off, rfl, hc⟩ := h.cells hn1
  have HL := hide hlen
  have HLP := hide hl'
  have hgb : b < w.heap.size := World.block_lt_of_cell? w _ (hc 0 hn1)
  obtain ⟨w1, hw1⟩ : ∃ w1, w.alloc (.cells (gdA W H (some ⟨b, off, none⟩) n c) 24) = w1 := ⟨_, rfl⟩
  have HC : Hid (∀ i, i < n → w1.cell? ⟨b, off + i, none⟩ = some (.int .i64 (zs.getD i 0))) := hide (fun i hi => by
    rw [← hw1]
    exact ((Below.refl w.heap.size w).alloc (Nat.le_refl _) _ |>.cell (p := ⟨b, off + i, none⟩) hgb).trans (hc i hi))
  have HB : Hid (Below w.heap.size w w1) := hide (by rw [← hw1]; exact (Below.refl _ _).alloc (Nat.le_refl _) _)
  obtain ⟨g0, g1, g2⟩ := (show Gd w1 w.heap.size W H (some ⟨b, off, none⟩) n c by rw [← hw1]; exact Gd.new _ _ _ _ _ _).cells
  have HW1 := hide hw1
  clear h hc hlen hl' hl
  go_enter Tryd.func17, Tryd.ntmps17
  go_upto_region 1 with fail
  clear hw1 HW1
  go_wp2_with fail
  refine (isSide_any W _).mono ?_
  rintro e wx ⟨rfl, hwx⟩
  subst wx
  rw [hdW]
  go_wp2_with fail
  refine (isSide_any H _).mono ?_
  rintro e wx ⟨rfl, hwx⟩
  subst wx
  rw [hdH]
  have hA' := hA
  have HH := hide (And.intro hW hH)
  clear hdW hdH hW hH
  go_wp2_with fail
  obtain ⟨hW, hH⟩ := HH.out
  have hl' := HLP.out
  clear hA hA' HLP hne HH
  go_loopw [29] (fun v wr => ∃ k : Nat, v = .int .i64 k ∧ k ≤ n ∧ Hid (∀ i, i < k → 0 ≤ zs.getD i 0 ∧ zs.getD i 0 ≤ 2) ∧ w1 = wr) (fun v _ => n - (intOf v).toNat)
  case atStart => exact ⟨0, rfl, by omega, hide (fun i hi => absurd hi (by omega)), rfl⟩
  case round =>
    obtain ⟨k, rfl, hk, hall, rfl⟩ := hrel
    by_cases hlt : k < n
    · have hlt' : (k : Int) < (n : Int) := by omega
      have hcell := HC.out k hlt
      have HNX : Hid (0 ≤ zs.getD k 0 ∧ zs.getD k 0 ≤ 2 → ∀ i, i < k + 1 → 0 ≤ zs.getD i 0 ∧ zs.getD i 0 ≤ 2) := hide (fun h i hi => by
        by_cases e : i = k
        · subst e; exact h
        · exact hall.out i (by omega))
      have HVN : Hid (¬ (0 ≤ zs.getD k 0 ∧ zs.getD k 0 ≤ 2) → mayG W H zs = false) := hide (fun h => mayG_no (fun hm => h (hm.2.2.2.2.2 _ (getD_mem (by rw [HL.out]; exact hlt)))))
      generalize zs.getD k 0 = x at *
      by_cases hx0 : x < 0
      · have HV := hide (HVN.out (by omega))
        go_wp2_with fail
        go_ret
        exact ⟨ret_bool HV.out.symm, HB.out⟩
      · by_cases hx2 : 2 < x
        · have HV := hide (HVN.out (by omega))
          go_wp2_with fail
          go_ret
          exact ⟨ret_bool HV.out.symm, HB.out⟩
        · have HN := hide (HNX.out (by omega))
          go_wp2_with fail
          exact ⟨⟨k + 1, by go_num, by omega, HN, trivial⟩, by simp [intOf]; omega⟩
    · have hlt' : ¬ (k : Int) < (n : Int) := by omega
      have HV : Hid (mayG W H zs = true) := hide (mayG_yes ⟨hW.1, hW.2, hH.1, hH.2, hl', fun z hz => by
        obtain ⟨i, hi, rfl⟩ := List.getElem_of_mem hz
        have := hall.out i (by have := HL.out; omega)
        simpa [List.getD, hi] using this⟩)
      go_wp2_with fail
      go_ret
      exact ⟨ret_bool HV.out.symm, HB.out⟩

set_option maxHeartbeats 2000000 in
theorem GridMay_any (W H : Int) (a : Option Addr) (n c : Nat) (zs : List Int) (w : World) (h : Rd w a n c zs) :
    Calls Tryd.prog 9 #[.agg (gdA W H a n c)] w fun e w' => e = .returned (.bool (mayG W H zs)) ∧ Below w.heap.size w w' := by
  have hlen := h.len
  have hcm := h.max
  have hcn := h.cap
  unfold maxLen at hcm
  by_cases hW : 1 ≤ W ∧ W ≤ 10
  rotate_left
  · have HV : Hid (mayG W H zs = false) := hide (mayG_no (fun hm => hW ⟨hm.1, hm.2.1⟩))
    have hd : decide (1 ≤ W ∧ W ≤ 10) = false := decide_eq_false hW
    clear h hW hlen
    go_enter Tryd.func9, Tryd.ntmps9
    go_wp2_with fail
    refine (within_any W 1 10 _).mono ?_
    rintro e wx ⟨rfl, hwx⟩
    subst wx
    rw [hd]
    go_wp2_with fail
    go_ret
    exact ⟨ret_bool HV.out.symm, (Below.refl _ _).alloc (Nat.le_refl _) _⟩
  have hdW : decide (1 ≤ W ∧ W ≤ 10) = true := decide_eq_true hW
  by_cases hH : 1 ≤ H ∧ H ≤ 10
  rotate_left
  · have HV : Hid (mayG W H zs = false) := hide (mayG_no (fun hm => hH ⟨hm.2.2.1, hm.2.2.2.1⟩))
    have hd : decide (1 ≤ H ∧ H ≤ 10) = false := decide_eq_false hH
    clear h hW hH hlen
    go_enter Tryd.func9, Tryd.ntmps9
    go_wp2_with fail
    refine (within_any W 1 10 _).mono ?_
    rintro e wx ⟨rfl, hwx⟩
    subst wx
    rw [hdW]
    go_wp2_with fail
    refine (within_any H 1 10 _).mono ?_
    rintro e wx ⟨rfl, hwx⟩
    subst wx
    rw [hd]
    go_wp2_with fail
    go_ret
    exact ⟨ret_bool HV.out.symm, (Below.refl _ _).alloc (Nat.le_refl _) _⟩
  have hdH : decide (1 ≤ H ∧ H ≤ 10) = true := decide_eq_true hH
  obtain ⟨A, hA⟩ : ∃ A, W * H = A := ⟨_, rfl⟩
  have hAb : 0 ≤ A ∧ A ≤ 100 := by
    have h1 : 0 ≤ W * H := Int.mul_nonneg (by omega) (by omega)
    have h2 : W * H ≤ 10 * H := Int.mul_le_mul_of_nonneg_right hW.2 (by omega)
    omega
  by_cases hl : (n : Int) = A
  rotate_left
  · have HV : Hid (mayG W H zs = false) := hide (mayG_no (fun hm => hl (by rw [← hA, ← hm.2.2.2.2.1, hlen])))
    have hne : ((n : Int) != A) = true := by simpa using hl
    clear h hlen hl
    go_enter Tryd.func9, Tryd.ntmps9
    go_wp2_with fail
    refine (within_any W 1 10 _).mono ?_
    rintro e wx ⟨rfl, hwx⟩
    subst wx
    rw [hdW]
    go_wp2_with fail
    refine (within_any H 1 10 _).mono ?_
    rintro e wx ⟨rfl, hwx⟩
    subst wx
    rw [hdH]
    clear hdW hdH hW hH
    go_wp2_with fail
    go_ret
    exact ⟨ret_bool HV.out.symm, (Below.refl _ _).alloc (Nat.le_refl _) _⟩
  have hl' : (zs.length : Int) = W * H := by rw [hA, hlen]; exact hl
  have hne : ((n : Int) != A) = false := by simpa using hl
  have hn1 : 0 < n := by
    have h1 : 1 * 1 ≤ W * H := Int.mul_le_mul hW.1 hH.1 (by omega) (by omega)
    omega
  obtain ⟨b, off, rfl, hc⟩ := h.cells hn1
  have HL := hide hlen
  have HLP := hide hl'
  have hgb : b < w.heap.size := World.block_lt_of_cell? w _ (hc 0 hn1)
  obtain ⟨w1, hw1⟩ : ∃ w1, w.alloc (.cells (gdA W H (some ⟨b, off, none⟩) n c) 24) = w1 := ⟨_, rfl⟩
  have HC : Hid (∀ i, i < n → w1.cell? ⟨b, off + i, none⟩ = some (.int .i64 (zs.getD i 0))) := hide (fun i hi => by
    rw [← hw1]
    exact ((Below.refl w.heap.size w).alloc (Nat.le_refl _) _ |>.cell (p := ⟨b, off + i, none⟩) hgb).trans (hc i hi))
  have HB : Hid (Below w.heap.size w w1) := hide (by rw [← hw1]; exact (Below.refl _ _).alloc (Nat.le_refl _) _)
  obtain ⟨g0, g1, g2⟩ := (show Gd w1 w.heap.size W H (some ⟨b, off, none⟩) n c by rw [← hw1]; exact Gd.new _ _ _ _ _ _).cells
  have HW1 := hide hw1
  clear h hc hlen hl' hl
  go_enter Tryd.func9, Tryd.ntmps9
  go_upto_region 1 with fail
  clear hw1 HW1
  go_wp2_with fail
  refine (within_any W 1 10 _).mono ?_
  rintro e wx ⟨rfl, hwx⟩
  subst wx
  rw [hdW]
  go_wp2_with fail
  refine (within_any H 1 10 _).mono ?_
  rintro e wx ⟨rfl, hwx⟩
  subst wx
  rw [hdH]
  have hA' := hA
  have HH := hide (And.intro hW hH)
  clear hdW hdH hW hH
  go_wp2_with fail
  obtain ⟨hW, hH⟩ := HH.out
  have hl' := HLP.out
  clear hA hA' HLP hne HH
  go_loopw [3] (fun v wr => ∃ k : Nat, v = .int .i64 k ∧ k ≤ n ∧ Hid (∀ i, i < k → 0 ≤ zs.getD i 0 ∧ zs.getD i 0 ≤ 2) ∧ w1 = wr) (fun v _ => n - (intOf v).toNat)
  case atStart => exact ⟨0, rfl, by omega, hide (fun i hi => absurd hi (by omega)), rfl⟩
  case round =>
    obtain ⟨k, rfl, hk, hall, rfl⟩ := hrel
    by_cases hlt : k < n
    · have hlt' : (k : Int) < (n : Int) := by omega
      have hcell := HC.out k hlt
      have HNX : Hid (0 ≤ zs.getD k 0 ∧ zs.getD k 0 ≤ 2 → ∀ i, i < k + 1 → 0 ≤ zs.getD i 0 ∧ zs.getD i 0 ≤ 2) := hide (fun h i hi => by
        by_cases e : i = k
        · subst e; exact h
        · exact hall.out i (by omega))
      have HVN : Hid (¬ (0 ≤ zs.getD k 0 ∧ zs.getD k 0 ≤ 2) → mayG W H zs = false) := hide (fun h => mayG_no (fun hm => h (hm.2.2.2.2.2 _ (getD_mem (by rw [HL.out]; exact hlt)))))
      generalize zs.getD k 0 = x at *
      by_cases hx : 0 ≤ x ∧ x ≤ 2
      · have HN := hide (HNX.out hx)
        have hd : decide (0 ≤ x ∧ x ≤ 2) = true := decide_eq_true hx
        clear hx
        go_wp2_with fail
        refine (within_any x 0 2 _).mono ?_
        rintro e wx ⟨rfl, hwx⟩
        subst wx
        rw [hd]
        go_wp2_with fail
        exact ⟨⟨k + 1, by go_num, by omega, HN, trivial⟩, by simp [intOf]; omega⟩
      · have HV := hide (HVN.out hx)
        have hd : decide (0 ≤ x ∧ x ≤ 2) = false := decide_eq_false hx
        clear hx
        go_wp2_with fail
        refine (within_any x 0 2 _).mono ?_
        rintro e wx ⟨rfl, hwx⟩
        subst wx
        rw [hd]
        go_wp2_with fail
        go_ret
        exact ⟨ret_bool HV.out.symm, HB.out⟩
    · have hlt' : ¬ (k : Int) < (n : Int) := by omega
      have HV : Hid (mayG W H zs = true) := hide (mayG_yes ⟨hW.1, hW.2, hH.1, hH.2, hl', fun z hz => by
        obtain ⟨i, hi, rfl⟩ := List.getElem_of_mem hz
        have := hall.out i (by have := HL.out; omega)
        simpa [List.getD, hi] using this⟩)
      go_wp2_with fail
      go_ret
      exact ⟨ret_bool HV.out.symm, HB.out⟩

/-- What is wrong with a board and a number of signs. -/
def fltG (W H : Int) (zs : List Int) (k : Int) : Int := if mayG W H zs = true then (if 1 ≤ k ∧ k ≤ 10 then 0 else 3) else 12

set_option maxHeartbeats 1000000 in
theorem fault_any (W H : Int) (a : Option Addr) (n c : Nat) (zs : List Int) (k : Int) (w : World) (h : Rd w a n c zs) :
    Calls Tryd.prog 23 #[.agg (gdA W H a n c), .int .i64 k] w fun e w' => e = .returned (.int .i64 (fltG W H zs k)) ∧ Below w.heap.size w w' := by
  have HM := hide (fun w1 (hb : Below w.heap.size w w1) => May_any W H a n c zs w1 (h.mono hb))
  have HB0 : Hid (Below w.heap.size w (w.alloc (.cells (gdA W H a n c) 24))) := hide ((Below.refl _ _).alloc (Nat.le_refl _) _)
  have G0 := Gd.new w W H a n c
  obtain ⟨V, hV⟩ : ∃ V, mayG W H zs = V := ⟨_, rfl⟩
  rw [hV] at HM
  have HF : Hid (fltG W H zs k = if V = true then (if 1 ≤ k ∧ k ≤ 10 then 0 else 3) else 12) := hide (by unfold fltG; rw [hV])
  clear h hV
  generalize hFG : fltG W H zs k = R at *
  clear hFG
  go_enter Tryd.func23, Tryd.ntmps23
  go_wp2_with (refine wpList_load_gd rfl (.tmp 2) rfl w.heap.size rfl G0 ?_)
  clear G0
  refine (HM.out _ HB0.out).mono ?_
  rintro e w2 ⟨rfl, hb2⟩
  have HB2 := hide (HB0.out.trans (hb2.mono HB0.out.size))
  clear hb2 HB0 HM
  cases V with
  | false =>
    have hR := HF.out
    simp only [Bool.false_eq_true, if_false] at hR
    subst hR
    go_wp2_with fail
    go_ret
    exact ⟨rfl, HB2.out⟩
  | true =>
    have hR := HF.out
    rw [if_pos rfl] at hR
    by_cases hk : 1 ≤ k ∧ k ≤ 10
    · rw [if_pos hk] at hR
      subst hR
      have hd : decide (1 ≤ k ∧ k ≤ 10) = true := decide_eq_true hk
      clear hk
      go_wp2_with fail
      refine (isSide_any k _).mono ?_
      rintro e wx ⟨rfl, hwx⟩
      subst wx
      rw [hd]
      go_wp2_with fail
      go_ret
      exact ⟨rfl, HB2.out⟩
    · rw [if_neg hk] at hR
      subst hR
      have hd : decide (1 ≤ k ∧ k ≤ 10) = false := decide_eq_false hk
      clear hk
      go_wp2_with fail
      refine (isSide_any k _).mono ?_
      rintro e wx ⟨rfl, hwx⟩
      subst wx
      rw [hd]
      go_wp2_with fail
      go_ret
      exact ⟨rfl, HB2.out⟩

end Go.Proofs.YthdnbbjehcicbaaDoor
