/-
  Which trays may be: slide.May, and the document's own SlideMay. No conditions beyond those that each theorem bears.
-/
import Derived.Test.YticalbpohhpjaaaDoorTy
namespace Go.Proofs.YticalbpohhpjaaaDoor
open Go.RowKit

/-- A tray that may be. -/
def mayS (W H : Int) (zs : List Int) : Prop := 2 ≤ W ∧ W ≤ 5 ∧ 2 ≤ H ∧ H ≤ 5 ∧ (zs.length : Int) = W * H ∧ ∀ i : Nat, i < zs.length → (i : Int) ∈ zs

instance (W H : Int) (zs : List Int) : Decidable (mayS W H zs) := by unfold mayS; infer_instance

def mayB (W H : Int) (zs : List Int) : Bool := decide (mayS W H zs)

theorem mayB_no {W H : Int} {zs : List Int} (h : ¬ mayS W H zs) : mayB W H zs = false := decide_eq_false h
theorem mayB_yes {W H : Int} {zs : List Int} (h : mayS W H zs) : mayB W H zs = true := decide_eq_true h

set_option maxHeartbeats 2000000 in
theorem May_any (W H : Int) (a : Option Addr) (n c : Nat) (zs : List Int) (w : World) (h : Rd w a n c zs) :
    Calls Tryd.prog 7 #[.agg (gdA W H a n c)] w fun e w' => e = .returned (.bool (mayB W H zs)) ∧ Below w.heap.size w w' := by
  have hlen := h.len
  have hcm := h.max
  have hcn := h.cap
  unfold maxLen at hcm
  by_cases hW : 2 ≤ W ∧ W ≤ 5
  rotate_left
  · have HV : Hid (mayB W H zs = false) := hide (mayB_no (fun hm => hW ⟨hm.1, hm.2.1⟩))
    have hd : decide (2 ≤ W ∧ W ≤ 5) = false := decide_eq_false hW
    clear h hW hlen
    go_enter Tryd.func7, Tryd.ntmps7
    go_wp2_with fail
    refine (isSide_any W _).mono ?_
    rintro e wx ⟨rfl, hwx⟩
    subst wx
    rw [hd]
    go_wp2_with fail
    go_ret
    exact ⟨ret_bool HV.out.symm, (Below.refl _ _).alloc (Nat.le_refl _) _⟩
  have hdW : decide (2 ≤ W ∧ W ≤ 5) = true := decide_eq_true hW
  by_cases hH : 2 ≤ H ∧ H ≤ 5
  rotate_left
  · have HV : Hid (mayB W H zs = false) := hide (mayB_no (fun hm => hH ⟨hm.2.2.1, hm.2.2.2.1⟩))
    have hd : decide (2 ≤ H ∧ H ≤ 5) = false := decide_eq_false hH
    clear h hW hH hlen
    go_enter Tryd.func7, Tryd.ntmps7
    go_wp2_with fail
    refine (isSide_any W _).mono ?_
    rintro e wx ⟨rfl, hwx⟩
    subst wx
    rw [hdW]
    go_wp2_with fail
    refine (isSide_any H _).mono ?_
    rintro e wx ⟨rfl, hwx⟩
    subst wx
    rw [hd]
    go_wp2_with fail
    go_ret
    exact ⟨ret_bool HV.out.symm, (Below.refl _ _).alloc (Nat.le_refl _) _⟩
  have hdH : decide (2 ≤ H ∧ H ≤ 5) = true := decide_eq_true hH
  obtain ⟨A, hA⟩ : ∃ A, W * H = A := ⟨_, rfl⟩
  have hAb : 0 ≤ A ∧ A ≤ 25 := by
    have h1 : 0 ≤ W * H := Int.mul_nonneg (by omega) (by omega)
    have h2 : W * H ≤ 5 * H := Int.mul_le_mul_of_nonneg_right hW.2 (by omega)
    omega
  by_cases hl : (n : Int) = A
  rotate_left
  · have HV : Hid (mayB W H zs = false) := hide (mayB_no (fun hm => hl (by rw [← hA, ← hm.2.2.2.2.1, hlen])))
    have hne : ((n : Int) != A) = true := by simpa using hl
    clear h hlen hl
    go_enter Tryd.func7, Tryd.ntmps7
    go_wp2_with fail
    refine (isSide_any W _).mono ?_
    rintro e wx ⟨rfl, hwx⟩
    subst wx
    rw [hdW]
    go_wp2_with fail
    refine (isSide_any H _).mono ?_
    rintro e wx ⟨rfl, hwx⟩
    subst wx
    rw [hdH]
    clear hdW hdH hW hH
    go_wp2_with fail
    go_ret
    exact ⟨ret_bool HV.out.symm, (Below.refl _ _).alloc (Nat.le_refl _) _⟩
  have hl' : (zs.length : Int) = W * H := by rw [hA, hlen]; exact hl
  have hne : ((n : Int) != A) = false := by simpa using hl
  have HL := hide hlen
  have HLP := hide hl'
  obtain ⟨w1, hw1⟩ : ∃ w1, w.alloc (.cells (gdA W H a n c) 24) = w1 := ⟨_, rfl⟩
  have HB : Hid (Below w.heap.size w w1) := hide (by rw [← hw1]; exact (Below.refl _ _).alloc (Nat.le_refl _) _)
  have HR := hide (h.mono HB.out)
  obtain ⟨g0, g1, g2⟩ := (show Gd w1 w.heap.size W H a n c by rw [← hw1]; exact Gd.new _ _ _ _ _ _).cells
  have HW1 := hide hw1
  clear h hlen hl' hl
  go_enter Tryd.func7, Tryd.ntmps7
  go_upto_region 1 with fail
  clear hw1 HW1
  go_wp2_with fail
  refine (isSide_any W _).mono ?_
  rintro e wx ⟨rfl, hwx⟩
  subst wx
  rw [hdW]
  go_wp2_with fail
  refine (isSide_any H _).mono ?_
  rintro e wx ⟨rfl, hwx⟩
  subst wx
  rw [hdH]
  have hA' := hA
  have HH := hide (And.intro hW hH)
  clear hdW hdH hW hH
  go_wp2_with fail
  obtain ⟨hW, hH⟩ := HH.out
  have hl' := HLP.out
  clear hA hA' HLP hne HH
  go_loopw [28] (fun v wr => ∃ k : Nat, v = .int .i64 k ∧ k ≤ n ∧ Hid (∀ i : Nat, i < k → (i : Int) ∈ zs) ∧ w1 = wr) (fun v _ => n - (intOf v).toNat)
  case atStart => exact ⟨0, rfl, by omega, hide (fun i hi => absurd hi (by omega)), rfl⟩
  case round =>
    obtain ⟨k, rfl, hk, hall, rfl⟩ := hrel
    by_cases hlt : k < n
    · have hlt' : (k : Int) < (n : Int) := by omega
      by_cases hx : (k : Int) ∈ zs
      · have hdx : decide ((k : Int) ∈ zs) = true := decide_eq_true hx
        have HN : Hid (∀ i : Nat, i < k + 1 → (i : Int) ∈ zs) := hide (fun i hi => by
          by_cases e : i = k
          · subst e; exact hx
          · exact hall.out i (by omega))
        go_wp2_with fail
        refine (Contains_any a n c zs k _ HR.out).mono ?_
        rintro e wx ⟨rfl, hwx⟩
        subst wx
        rw [hdx]
        go_wp2_with fail
        exact ⟨⟨k + 1, by go_num, by omega, HN, trivial⟩, by simp [intOf]; omega⟩
      · have hdx : decide ((k : Int) ∈ zs) = false := decide_eq_false hx
        have HV : Hid (mayB W H zs = false) := hide (mayB_no (fun hm => hx (hm.2.2.2.2.2 k (by have := HL.out; omega))))
        go_wp2_with fail
        refine (Contains_any a n c zs k _ HR.out).mono ?_
        rintro e wx ⟨rfl, hwx⟩
        subst wx
        rw [hdx]
        go_wp2_with fail
        go_ret
        exact ⟨ret_bool HV.out.symm, HB.out⟩
    · have hlt' : ¬ (k : Int) < (n : Int) := by omega
      have HV : Hid (mayB W H zs = true) := hide (mayB_yes ⟨hW.1, hW.2, hH.1, hH.2, hl', fun i hi => hall.out i (by have := HL.out; omega)⟩)
      go_wp2_with fail
      go_ret
      exact ⟨ret_bool HV.out.symm, HB.out⟩

set_option maxHeartbeats 2000000 in
theorem SlideMay_any (W H : Int) (a : Option Addr) (n c : Nat) (zs : List Int) (w : World) (h : Rd w a n c zs) :
    Calls Tryd.prog 13 #[.agg (gdA W H a n c)] w fun e w' => e = .returned (.bool (mayB W H zs)) ∧ Below w.heap.size w w' := by
  have hlen := h.len
  have hcm := h.max
  have hcn := h.cap
  unfold maxLen at hcm
  by_cases hW : 2 ≤ W ∧ W ≤ 5
  rotate_left
  · have HV : Hid (mayB W H zs = false) := hide (mayB_no (fun hm => hW ⟨hm.1, hm.2.1⟩))
    have hd : decide (2 ≤ W ∧ W ≤ 5) = false := decide_eq_false hW
    clear h hW hlen
    go_enter Tryd.func13, Tryd.ntmps13
    go_wp2_with fail
    refine (within_any W 2 5 _).mono ?_
    rintro e wx ⟨rfl, hwx⟩
    subst wx
    rw [hd]
    go_wp2_with fail
    go_ret
    exact ⟨ret_bool HV.out.symm, (Below.refl _ _).alloc (Nat.le_refl _) _⟩
  have hdW : decide (2 ≤ W ∧ W ≤ 5) = true := decide_eq_true hW
  by_cases hH : 2 ≤ H ∧ H ≤ 5
  rotate_left
  · have HV : Hid (mayB W H zs = false) := hide (mayB_no (fun hm => hH ⟨hm.2.2.1, hm.2.2.2.1⟩))
    have hd : decide (2 ≤ H ∧ H ≤ 5) = false := decide_eq_false hH
    clear h hW hH hlen
    go_enter Tryd.func13, Tryd.ntmps13
    go_wp2_with fail
    refine (within_any W 2 5 _).mono ?_
    rintro e wx ⟨rfl, hwx⟩
    subst wx
    rw [hdW]
    go_wp2_with fail
    refine (within_any H 2 5 _).mono ?_
    rintro e wx ⟨rfl, hwx⟩
    subst wx
    rw [hd]
    go_wp2_with fail
    go_ret
    exact ⟨ret_bool HV.out.symm, (Below.refl _ _).alloc (Nat.le_refl _) _⟩
  have hdH : decide (2 ≤ H ∧ H ≤ 5) = true := decide_eq_true hH
  obtain ⟨A, hA⟩ : ∃ A, W * H = A := ⟨_, rfl⟩
  have hAb : 0 ≤ A ∧ A ≤ 25 := by
    have h1 : 0 ≤ W * H := Int.mul_nonneg (by omega) (by omega)
    have h2 : W * H ≤ 5 * H := Int.mul_le_mul_of_nonneg_right hW.2 (by omega)
    omega
  by_cases hl : (n : Int) = A
  rotate_left
  · have HV : Hid (mayB W H zs = false) := hide (mayB_no (fun hm => hl (by rw [← hA, ← hm.2.2.2.2.1, hlen])))
    have hne : ((n : Int) != A) = true := by simpa using hl
    clear h hlen hl
    go_enter Tryd.func13, Tryd.ntmps13
    go_wp2_with fail
    refine (within_any W 2 5 _).mono ?_
    rintro e wx ⟨rfl, hwx⟩
    subst wx
    rw [hdW]
    go_wp2_with fail
    refine (within_any H 2 5 _).mono ?_
    rintro e wx ⟨rfl, hwx⟩
    subst wx
    rw [hdH]
    clear hdW hdH hW hH
    go_wp2_with fail
    go_ret
    exact ⟨ret_bool HV.out.symm, (Below.refl _ _).alloc (Nat.le_refl _) _⟩
  have hl' : (zs.length : Int) = W * H := by rw [hA, hlen]; exact hl
  have hne : ((n : Int) != A) = false := by simpa using hl
  have HOK : Hid (mayB W H zs = true ↔ ∀ i : Nat, i < n → (i : Int) ∈ zs) := hide (by
    unfold mayB
    rw [decide_eq_true_iff]
    exact ⟨fun hm i hi => hm.2.2.2.2.2 i (by omega), fun hm => ⟨hW.1, hW.2, hH.1, hH.2, hl', fun i hi => hm i (by omega)⟩⟩)
  generalize mayB W H zs = ok at *
  obtain ⟨w1, hw1⟩ : ∃ w1, w.alloc (.cells (gdA W H a n c) 24) = w1 := ⟨_, rfl⟩
  have HB : Hid (Below w.heap.size w w1) := hide (by rw [← hw1]; exact (Below.refl _ _).alloc (Nat.le_refl _) _)
  have HR := hide (h.mono HB.out)
  obtain ⟨g0, g1, g2⟩ := (show Gd w1 w.heap.size W H a n c by rw [← hw1]; exact Gd.new _ _ _ _ _ _).cells
  have HW1 := hide hw1
  clear h hlen hl' hl
  go_enter Tryd.func13, Tryd.ntmps13
  go_upto_region 1 with fail
  clear hw1 HW1
  go_wp2_with fail
  refine (within_any W 2 5 _).mono ?_
  rintro e wx ⟨rfl, hwx⟩
  subst wx
  rw [hdW]
  go_wp2_with fail
  refine (within_any H 2 5 _).mono ?_
  rintro e wx ⟨rfl, hwx⟩
  subst wx
  rw [hdH]
  clear hdW hdH hW hH
  go_wp2_with fail
  refine (OrderIs_any a n c zs _ HR.out ok HOK.out).mono ?_
  rintro e wx ⟨rfl, hwx⟩
  subst wx
  go_wp2_with fail
  go_ret
  exact ⟨rfl, HB.out⟩

end Go.Proofs.YticalbpohhpjaaaDoor
