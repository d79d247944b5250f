/-
  Which boards of hex may be, and what is refused. No conditions beyond those that each theorem bears.
-/
import Derived.Test.YtldgikinmmkhiaaDoorJd
namespace Go.Proofs.YtldgikinmmkhiaaDoor
open Go.RowKit Go.Shelf

/-- A board of hex that may be. -/
def hMay (W H : Int) (zs : List Int) : Bool := mayG W H zs && decide (W = H)

theorem hMay_iff {W H : Int} {zs : List Int} : hMay W H zs = true ↔ W = H ∧ mayP W H zs := by
  unfold hMay mayG
  rw [Bool.and_eq_true, decide_eq_true_iff, decide_eq_true_iff]
  exact And.comm

/-- Such a board has n rows and n columns. -/
theorem hMay_board {W H : Int} {zs : List Int} {a : Option Addr} {N c : Nat} {w : World} (h : hMay W H zs = true) (hR : Rd w a N c zs) : ∃ n : Nat, W = n ∧ H = n ∧ 1 ≤ n ∧ n ≤ 10 ∧ n * n = N ∧ ∃ cb co, a = some ⟨cb, co, none⟩ := by
  obtain ⟨rfl, hp⟩ := hMay_iff.1 h
  obtain ⟨n, rfl⟩ := Int.eq_ofNat_of_zero_le (show 0 ≤ W by have := hp.1; omega)
  have h1 := hp.1
  have h2 := hp.2.1
  have hN : n * n = N := by
    have := hp.2.2.2.2.1
    rw [hR.len] at this
    have h3 : ((n * n : Nat) : Int) = (N : Int) := by rw [Int.natCast_mul]; exact this.symm
    omega
  have hN1 : 0 < N := by rw [← hN]; exact Nat.mul_pos (by omega) (by omega)
  obtain ⟨cb, co, e, _⟩ := hR.cells hN1
  exact ⟨n, rfl, rfl, by omega, by omega, hN, cb, co, e⟩

set_option maxHeartbeats 2000000 in
theorem mayBe_any (W H : Int) (a : Option Addr) (n c : Nat) (zs : List Int) (w : World) (h : Rd w a n c zs) :
    Calls Tryd.prog 28 #[.agg (gdA W H a n c)] w fun e w' => e = .returned (.bool (hMay W H zs)) ∧ Below w.heap.size w w' := by
  obtain ⟨w1, hw1⟩ : ∃ w1, w.alloc (.cells (gdA W H a n c) 24) = w1 := ⟨_, rfl⟩
  have B1 : Below w.heap.size w w1 := by rw [← hw1]; exact (Below.refl _ _).alloc (Nat.le_refl _) _
  have G1 : Gd w1 w.heap.size W H a n c := by rw [← hw1]; exact Gd.new _ _ _ _ _ _
  have HM := hide (May_any W H a n c zs w1 (h.mono B1))
  have HV : Hid (hMay W H zs = (mayG W H zs && decide (W = H))) := hide rfl
  have HB1 := hide B1
  have HG1 := hide G1
  generalize hMay W H zs = V at *
  generalize mayG W H zs = M at *
  clear h B1
  go_enter Tryd.func28, Tryd.ntmps28
  go_upto_region 1 with fail
  clear hw1
  go_wp2_with (first | (refine wpList_load_gd rfl (.tmp 1) rfl w.heap.size rfl G1 ?_) | fail)
  refine HM.out.mono ?_
  rintro e w2 ⟨rfl, hb⟩
  have HB2 := hide (HB1.out.trans (hb.mono HB1.out.size))
  obtain ⟨g0, g1, -⟩ := (HG1.out.below hb HG1.out.lt).cells
  clear hb G1 HM
  cases M with
  | false =>
    go_wp2_with fail
    go_ret
    exact ⟨ret_bool (by rw [HV.out]; rfl), HB2.out⟩
  | true =>
    go_wp2_with fail
    go_ret
    refine ⟨ret_bool ?_, HB2.out⟩
    rw [HV.out, Bool.eq_iff_iff]
    simp

set_option maxHeartbeats 2000000 in
theorem HexMay_any (W H : Int) (a : Option Addr) (n c : Nat) (zs : List Int) (w : World) (h : Rd w a n c zs) :
    Calls Tryd.prog 11 #[.agg (gdA W H a n c)] w fun e w' => e = .returned (.bool (hMay W H zs)) ∧ Below w.heap.size w w' := by
  obtain ⟨w1, hw1⟩ : ∃ w1, w.alloc (.cells (gdA W H a n c) 24) = w1 := ⟨_, rfl⟩
  have B1 : Below w.heap.size w w1 := by rw [← hw1]; exact (Below.refl _ _).alloc (Nat.le_refl _) _
  have G1 : Gd w1 w.heap.size W H a n c := by rw [← hw1]; exact Gd.new _ _ _ _ _ _
  have HM := hide (GridMay_any W H a n c zs w1 (h.mono B1))
  have HV : Hid (hMay W H zs = (mayG W H zs && decide (W = H))) := hide rfl
  have HB1 := hide B1
  have HG1 := hide G1
  generalize hMay W H zs = V at *
  generalize mayG W H zs = M at *
  clear h B1
  go_enter Tryd.func11, Tryd.ntmps11
  go_upto_region 1 with fail
  clear hw1
  go_wp2_with (first | (refine wpList_load_gd rfl (.tmp 1) rfl w.heap.size rfl G1 ?_) | fail)
  refine HM.out.mono ?_
  rintro e w2 ⟨rfl, hb⟩
  have HB2 := hide (HB1.out.trans (hb.mono HB1.out.size))
  obtain ⟨g0, g1, -⟩ := (HG1.out.below hb HG1.out.lt).cells
  clear hb G1 HM
  cases M with
  | false =>
    go_wp2_with fail
    go_ret
    exact ⟨ret_bool (by rw [HV.out]; rfl), HB2.out⟩
  | true =>
    go_wp2_with fail
    go_ret
    refine ⟨ret_bool ?_, HB2.out⟩
    rw [HV.out, Bool.eq_iff_iff]
    simp

/-- A player. -/
def isP (x : Int) : Bool := decide (x = 1 ∨ x = 2)

set_option maxHeartbeats 1000000 in
theorem isPlayer_any (x : Int) (w : World) : Calls Tryd.prog 39 #[.int .i64 x] w fun e w' => e = .returned (.bool (isP x)) ∧ w' = w := by
  by_cases h1 : x = 1
  · subst h1
    go_enter Tryd.func39, Tryd.ntmps39
    go_wp2
    go_ret
    exact ⟨ret_bool (by simp [isP]), rfl⟩
  · have e1 : (x == 1) = false := by simpa using h1
    by_cases h2 : x = 2
    · subst h2
      go_enter Tryd.func39, Tryd.ntmps39
      go_wp2
      go_ret
      exact ⟨ret_bool (by simp [isP]), rfl⟩
    · have e2 : (x == 2) = false := by simpa using h2
      have HV : Hid (isP x = false) := hide (by simp [isP, h1, h2])
      clear h1 h2
      go_enter Tryd.func39, Tryd.ntmps39
      go_wp2
      go_ret
      exact ⟨ret_bool (by rw [HV.out]), rfl⟩

/-- What is wrong with a board and a player. -/
def hF (W H : Int) (zs : List Int) (x : Int) : Int := if hMay W H zs = true then (if isP x = true then 0 else 4) else 12

set_option maxHeartbeats 2000000 in
theorem fault_any (W H : Int) (a : Option Addr) (n c : Nat) (zs : List Int) (x : Int) (w : World) (h : Rd w a n c zs) :
    Calls Tryd.prog 24 #[.agg (gdA W H a n c), .int .i64 x] w fun e w' => e = .returned (.int .i64 (hF W H zs x)) ∧ Below w.heap.size w w' := by
  obtain ⟨w1, hw1⟩ : ∃ w1, w.alloc (.cells (gdA W H a n c) 24) = w1 := ⟨_, rfl⟩
  have B1 : Below w.heap.size w w1 := by rw [← hw1]; exact (Below.refl _ _).alloc (Nat.le_refl _) _
  have G1 : Gd w1 w.heap.size W H a n c := by rw [← hw1]; exact Gd.new _ _ _ _ _ _
  have HM := hide (mayBe_any W H a n c zs w1 (h.mono B1))
  have HV : Hid (hF W H zs x = if hMay W H zs = true then (if isP x = true then 0 else 4) else 12) := hide rfl
  have HP := hide (isPlayer_any x)
  have HB1 := hide B1
  generalize hF W H zs x = V at *
  generalize hMay W H zs = M at *
  generalize isP x = P at *
  clear h B1
  go_enter Tryd.func24, Tryd.ntmps24
  go_upto_region 1 with fail
  clear hw1
  go_wp2_with (first | (refine wpList_load_gd rfl (.tmp 2) rfl w.heap.size rfl G1 ?_) | fail)
  refine HM.out.mono ?_
  rintro e w2 ⟨rfl, hb⟩
  have HB2 := hide (HB1.out.trans (hb.mono HB1.out.size))
  clear hb G1 HM
  cases M with
  | false =>
    go_wp2_with fail
    go_ret
    exact ⟨ret_int (by rw [HV.out]; rfl), HB2.out⟩
  | true =>
    go_wp2_with fail
    refine (HP.out _).mono ?_
    rintro e wx ⟨rfl, hwx⟩
    subst wx
    cases P with
    | false =>
      go_wp2_with fail
      go_ret
      exact ⟨ret_int (by rw [HV.out]; rfl), HB2.out⟩
    | true =>
      go_wp2_with fail
      go_ret
      exact ⟨ret_int (by rw [HV.out]; rfl), HB2.out⟩

end Go.Proofs.YtldgikinmmkhiaaDoor
