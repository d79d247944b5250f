/-
  The law DominoSets, walked. No conditions beyond those that each theorem bears.
-/
import Derived.Test.YtjcglpnpdalcjaaRo
import Derived.Test.YtjcglpnpdalcjaaSet
namespace Go.Proofs.Ytjcglpnpdalcjaa
open Go.RowKit
attribute [local irreducible] hz hzL rwN setL roV rowsV

theorem rowsV_big (ps : List Pc) (h : 7 < ps.length) : rowsV ps = (0, 2) := by
  have : fltE ps 7 = 2 := by unfold fltE; rw [if_pos h]
  unfold rowsV
  rw [if_pos (by rw [this]; decide), this]

theorem rowsV_bad (ps : List Pc) (h : ps.length ≤ 7) (hp : pcsB ps = false) : rowsV ps = (0, 3) := by
  have : fltE ps 7 = 3 := by unfold fltE; rw [if_neg (by omega), hp]; rfl
  unfold rowsV
  rw [if_pos (by rw [this]; decide), this]

theorem rowsV_ok (ps : List Pc) (h : ps.length ≤ 7) (hp : pcsB ps = true) : rowsV ps = (roV ps (-1), 0) := by
  have : fltE ps 7 = 0 := by unfold fltE; rw [if_neg (by omega), hp]; rfl
  unfold rowsV roV
  rw [if_neg (by rw [this]; simp)]
  by_cases h0 : ps.length = 0
  · rw [if_pos h0, if_pos h0]
  · rw [if_neg h0, if_neg h0, if_pos (by omega)]

set_option maxRecDepth 100000 in
set_option maxHeartbeats 4000000 in
theorem law3_lo_big (x : Int) (a : Option Addr) (n c : Nat) (ps : List Pc) (w : World) (h : Rp w a n c ps) (hr : n * 16 ≤ 140737488351232) (hm : x < 0) (hl : 7 < n) :
    Calls Try.prog 3 #[.int .i64 x, .slice a n c] w fun e w' => e = .returned (.bool true) ∧ Below w.heap.size w w' := by
  have hcm := h.max
  have hcn := h.cap
  unfold maxLen at hcm
  have HH := hide h
  have HL := hide h.len
  have HV := hide (rowsV_big ps (by rw [h.len]; exact hl))
  have hlI : (7 : Int) < (n : Int) := by omega
  have heb : endB x = false := by unfold endB; rw [decide_eq_false_iff_not]; omega
  clear h
  go_enter Try.func3, Try.ntmps3
  go_wp2_with fail
  refine (Set_no x heb w).mono ?_
  rintro e w1 ⟨rfl, hw1⟩
  subst w1
  have HB1 := hide (Below.refl w.heap.size w)
  go_wp2_with fail
  refine (pieces_any a n c ps w (HH.out.mono HB1.out) hr).mono ?_
  rintro e w2 ⟨a2, c2, rfl, hR2, hB2⟩
  have HR2 := hide hR2
  have HB2 := hide (HB1.out.trans (hB2.mono HB1.out.size))
  clear hR2 hB2
  go_wp2_with fail
  refine (Rows_any a2 n c2 ps w2 HR2.out).mono ?_
  rw [HV.out]
  rintro e w3 ⟨rfl, hB3⟩
  have HB3 := hide (HB2.out.trans (hB3.mono HB2.out.size))
  clear hB3
  simp only
  go_wp2_with fail
  go_ret
  exact ⟨rfl, HB3.out⟩

set_option maxRecDepth 100000 in
set_option maxHeartbeats 4000000 in
theorem law3_lo_bad (x : Int) (a : Option Addr) (n c : Nat) (ps : List Pc) (w : World) (h : Rp w a n c ps) (hr : n * 16 ≤ 140737488351232) (hm : x < 0) (hl : n ≤ 7) (hp : pcsB ps = false) :
    Calls Try.prog 3 #[.int .i64 x, .slice a n c] w fun e w' => e = .returned (.bool true) ∧ Below w.heap.size w w' := by
  have hcm := h.max
  have hcn := h.cap
  unfold maxLen at hcm
  have HH := hide h
  have HL := hide h.len
  have HV := hide (rowsV_bad ps (by rw [h.len]; exact hl) hp)
  have HP := hide hp
  have hlI : ¬ (7 : Int) < (n : Int) := by omega
  clear hp
  have heb : endB x = false := by unfold endB; rw [decide_eq_false_iff_not]; omega
  clear h
  go_enter Try.func3, Try.ntmps3
  go_wp2_with fail
  refine (Set_no x heb w).mono ?_
  rintro e w1 ⟨rfl, hw1⟩
  subst w1
  have HB1 := hide (Below.refl w.heap.size w)
  go_wp2_with fail
  refine (pieces_any a n c ps w (HH.out.mono HB1.out) hr).mono ?_
  rintro e w2 ⟨a2, c2, rfl, hR2, hB2⟩
  have HR2 := hide hR2
  have HB2 := hide (HB1.out.trans (hB2.mono HB1.out.size))
  clear hR2 hB2
  go_wp2_with fail
  refine (Rows_any a2 n c2 ps w2 HR2.out).mono ?_
  rw [HV.out]
  rintro e w3 ⟨rfl, hB3⟩
  have HB3 := hide (HB2.out.trans (hB3.mono HB2.out.size))
  clear hB3
  simp only
  go_wp2_with fail
  refine (PiecesMay_any a n c ps w3 (HH.out.mono HB3.out)).mono ?_
  rw [HP.out]
  rintro e w6 ⟨rfl, hB6⟩
  have HB6 := hide (HB3.out.trans (hB6.mono HB3.out.size))
  clear hB6
  go_wp2_with fail
  go_ret
  exact ⟨rfl, HB6.out⟩

set_option maxRecDepth 100000 in
set_option maxHeartbeats 4000000 in
theorem law3_lo_ok (x : Int) (a : Option Addr) (n c : Nat) (ps : List Pc) (w : World) (h : Rp w a n c ps) (hr : n * 16 ≤ 140737488351232) (hm : x < 0) (hl : n ≤ 7) (hp : pcsB ps = true) :
    Calls Try.prog 3 #[.int .i64 x, .slice a n c] w fun e w' => e = .returned (.bool true) ∧ Below w.heap.size w w' := by
  have hcm := h.max
  have hcn := h.cap
  unfold maxLen at hcm
  have HH := hide h
  have HL := hide h.len
  obtain ⟨R, hR⟩ : ∃ R, roV ps (-1) = R := ⟨_, rfl⟩
  have HV := hide (rowsV_ok ps (by rw [h.len]; exact hl) hp)
  rw [hR] at HV
  have HR := hide hR
  have HP := hide hp
  have hlI : ¬ (7 : Int) < (n : Int) := by omega
  have hRR : ((R : Int) == (R : Int)) = true := by simp
  clear hp hR
  have heb : endB x = false := by unfold endB; rw [decide_eq_false_iff_not]; omega
  clear h
  go_enter Try.func3, Try.ntmps3
  go_wp2_with fail
  refine (Set_no x heb w).mono ?_
  rintro e w1 ⟨rfl, hw1⟩
  subst w1
  have HB1 := hide (Below.refl w.heap.size w)
  go_wp2_with fail
  refine (pieces_any a n c ps w (HH.out.mono HB1.out) hr).mono ?_
  rintro e w2 ⟨a2, c2, rfl, hR2, hB2⟩
  have HR2 := hide hR2
  have HB2 := hide (HB1.out.trans (hB2.mono HB1.out.size))
  clear hR2 hB2
  go_wp2_with fail
  refine (Rows_any a2 n c2 ps w2 HR2.out).mono ?_
  rw [HV.out]
  rintro e w3 ⟨rfl, hB3⟩
  have HB3 := hide (HB2.out.trans (hB3.mono HB2.out.size))
  clear hB3
  simp only
  go_wp2_with fail
  refine (PiecesMay_any a n c ps w3 (HH.out.mono HB3.out)).mono ?_
  rw [HP.out]
  rintro e w6 ⟨rfl, hB6⟩
  have HB6 := hide (HB3.out.trans (hB6.mono HB3.out.size))
  clear hB6
  go_wp2_with fail
  refine (RowsOf_any n hl a c ps (-1) w6 (HH.out.mono HB6.out) HP.out (by omega) (by omega)).mono ?_
  rw [HR.out]
  rintro e w7 ⟨rfl, hB7⟩
  have HB7 := hide (HB6.out.trans (hB7.mono HB6.out.size))
  clear hB7
  go_wp2_with fail
  go_ret
  exact ⟨rfl, HB7.out⟩

set_option maxRecDepth 100000 in
set_option maxHeartbeats 4000000 in
theorem law3_hi_big (x : Int) (a : Option Addr) (n c : Nat) (ps : List Pc) (w : World) (h : Rp w a n c ps) (hr : n * 16 ≤ 140737488351232) (hm : ¬ x < 0) (hm2 : 9 < x) (hl : 7 < n) :
    Calls Try.prog 3 #[.int .i64 x, .slice a n c] w fun e w' => e = .returned (.bool true) ∧ Below w.heap.size w w' := by
  have hcm := h.max
  have hcn := h.cap
  unfold maxLen at hcm
  have HH := hide h
  have HL := hide h.len
  have HV := hide (rowsV_big ps (by rw [h.len]; exact hl))
  have hlI : (7 : Int) < (n : Int) := by omega
  have heb : endB x = false := by unfold endB; rw [decide_eq_false_iff_not]; omega
  have hmd : decide (x < 0) = false := by simpa using hm
  clear h
  go_enter Try.func3, Try.ntmps3
  go_wp2_with fail
  refine (Set_no x heb w).mono ?_
  rintro e w1 ⟨rfl, hw1⟩
  subst w1
  have HB1 := hide (Below.refl w.heap.size w)
  go_wp2_with fail
  refine (pieces_any a n c ps w (HH.out.mono HB1.out) hr).mono ?_
  rintro e w2 ⟨a2, c2, rfl, hR2, hB2⟩
  have HR2 := hide hR2
  have HB2 := hide (HB1.out.trans (hB2.mono HB1.out.size))
  clear hR2 hB2
  go_wp2_with fail
  refine (Rows_any a2 n c2 ps w2 HR2.out).mono ?_
  rw [HV.out]
  rintro e w3 ⟨rfl, hB3⟩
  have HB3 := hide (HB2.out.trans (hB3.mono HB2.out.size))
  clear hB3
  simp only
  go_wp2_with fail
  go_ret
  exact ⟨rfl, HB3.out⟩

set_option maxRecDepth 100000 in
set_option maxHeartbeats 4000000 in
theorem law3_hi_bad (x : Int) (a : Option Addr) (n c : Nat) (ps : List Pc) (w : World) (h : Rp w a n c ps) (hr : n * 16 ≤ 140737488351232) (hm : ¬ x < 0) (hm2 : 9 < x) (hl : n ≤ 7) (hp : pcsB ps = false) :
    Calls Try.prog 3 #[.int .i64 x, .slice a n c] w fun e w' => e = .returned (.bool true) ∧ Below w.heap.size w w' := by
  have hcm := h.max
  have hcn := h.cap
  unfold maxLen at hcm
  have HH := hide h
  have HL := hide h.len
  have HV := hide (rowsV_bad ps (by rw [h.len]; exact hl) hp)
  have HP := hide hp
  have hlI : ¬ (7 : Int) < (n : Int) := by omega
  clear hp
  have heb : endB x = false := by unfold endB; rw [decide_eq_false_iff_not]; omega
  have hmd : decide (x < 0) = false := by simpa using hm
  clear h
  go_enter Try.func3, Try.ntmps3
  go_wp2_with fail
  refine (Set_no x heb w).mono ?_
  rintro e w1 ⟨rfl, hw1⟩
  subst w1
  have HB1 := hide (Below.refl w.heap.size w)
  go_wp2_with fail
  refine (pieces_any a n c ps w (HH.out.mono HB1.out) hr).mono ?_
  rintro e w2 ⟨a2, c2, rfl, hR2, hB2⟩
  have HR2 := hide hR2
  have HB2 := hide (HB1.out.trans (hB2.mono HB1.out.size))
  clear hR2 hB2
  go_wp2_with fail
  refine (Rows_any a2 n c2 ps w2 HR2.out).mono ?_
  rw [HV.out]
  rintro e w3 ⟨rfl, hB3⟩
  have HB3 := hide (HB2.out.trans (hB3.mono HB2.out.size))
  clear hB3
  simp only
  go_wp2_with fail
  refine (PiecesMay_any a n c ps w3 (HH.out.mono HB3.out)).mono ?_
  rw [HP.out]
  rintro e w6 ⟨rfl, hB6⟩
  have HB6 := hide (HB3.out.trans (hB6.mono HB3.out.size))
  clear hB6
  go_wp2_with fail
  go_ret
  exact ⟨rfl, HB6.out⟩

set_option maxRecDepth 100000 in
set_option maxHeartbeats 4000000 in
theorem law3_hi_ok (x : Int) (a : Option Addr) (n c : Nat) (ps : List Pc) (w : World) (h : Rp w a n c ps) (hr : n * 16 ≤ 140737488351232) (hm : ¬ x < 0) (hm2 : 9 < x) (hl : n ≤ 7) (hp : pcsB ps = true) :
    Calls Try.prog 3 #[.int .i64 x, .slice a n c] w fun e w' => e = .returned (.bool true) ∧ Below w.heap.size w w' := by
  have hcm := h.max
  have hcn := h.cap
  unfold maxLen at hcm
  have HH := hide h
  have HL := hide h.len
  obtain ⟨R, hR⟩ : ∃ R, roV ps (-1) = R := ⟨_, rfl⟩
  have HV := hide (rowsV_ok ps (by rw [h.len]; exact hl) hp)
  rw [hR] at HV
  have HR := hide hR
  have HP := hide hp
  have hlI : ¬ (7 : Int) < (n : Int) := by omega
  have hRR : ((R : Int) == (R : Int)) = true := by simp
  clear hp hR
  have heb : endB x = false := by unfold endB; rw [decide_eq_false_iff_not]; omega
  have hmd : decide (x < 0) = false := by simpa using hm
  clear h
  go_enter Try.func3, Try.ntmps3
  go_wp2_with fail
  refine (Set_no x heb w).mono ?_
  rintro e w1 ⟨rfl, hw1⟩
  subst w1
  have HB1 := hide (Below.refl w.heap.size w)
  go_wp2_with fail
  refine (pieces_any a n c ps w (HH.out.mono HB1.out) hr).mono ?_
  rintro e w2 ⟨a2, c2, rfl, hR2, hB2⟩
  have HR2 := hide hR2
  have HB2 := hide (HB1.out.trans (hB2.mono HB1.out.size))
  clear hR2 hB2
  go_wp2_with fail
  refine (Rows_any a2 n c2 ps w2 HR2.out).mono ?_
  rw [HV.out]
  rintro e w3 ⟨rfl, hB3⟩
  have HB3 := hide (HB2.out.trans (hB3.mono HB2.out.size))
  clear hB3
  simp only
  go_wp2_with fail
  refine (PiecesMay_any a n c ps w3 (HH.out.mono HB3.out)).mono ?_
  rw [HP.out]
  rintro e w6 ⟨rfl, hB6⟩
  have HB6 := hide (HB3.out.trans (hB6.mono HB3.out.size))
  clear hB6
  go_wp2_with fail
  refine (RowsOf_any n hl a c ps (-1) w6 (HH.out.mono HB6.out) HP.out (by omega) (by omega)).mono ?_
  rw [HR.out]
  rintro e w7 ⟨rfl, hB7⟩
  have HB7 := hide (HB6.out.trans (hB7.mono HB6.out.size))
  clear hB7
  go_wp2_with fail
  go_ret
  exact ⟨rfl, HB7.out⟩

set_option maxRecDepth 100000 in
set_option maxHeartbeats 4000000 in
theorem law3_ok_big (x : Int) (a : Option Addr) (n c : Nat) (ps : List Pc) (w : World) (h : Rp w a n c ps) (hr : n * 16 ≤ 140737488351232) (m : Nat) (hxm : x = m) (hm : m ≤ 9) (hl : 7 < n) :
    Calls Try.prog 3 #[.int .i64 x, .slice a n c] w fun e w' => e = .returned (.bool true) ∧ Below w.heap.size w w' := by
  have hcm := h.max
  have hcn := h.cap
  unfold maxLen at hcm
  have HH := hide h
  have HL := hide h.len
  have HV := hide (rowsV_big ps (by rw [h.len]; exact hl))
  have hlI : (7 : Int) < (n : Int) := by omega
  subst hxm
  have hx1 : ¬ (m : Int) < 0 := by omega
  have hx1d : decide ((m : Int) < 0) = false := by simp
  have hx2 : ¬ (9 : Int) < (m : Int) := by omega
  obtain ⟨SL, hSL⟩ : ∃ SL, (setL m).length = SL := ⟨_, rfl⟩
  have HSL := hide hSL
  clear hSL
  clear h
  go_enter Try.func3, Try.ntmps3
  go_wp2_with fail
  refine (Set_any m hm w).mono ?_
  rw [HSL.out]
  rintro e w1 ⟨a1, c1, rfl, hO1, hB1⟩
  have hc1 := (Rp.of_own hO1).max
  have hc1' := (Rp.of_own hO1).cap
  unfold maxLen at hc1
  have HO1 := hide hO1
  have HB1 := hide hB1
  clear hO1 hB1
  go_wp2_with fail
  refine (pieces_any a n c ps w1 (HH.out.mono HB1.out) hr).mono ?_
  rintro e w2 ⟨a2, c2, rfl, hR2, hB2⟩
  have HR2 := hide hR2
  have HB2 := hide (HB1.out.trans (hB2.mono HB1.out.size))
  have HS2 := hide ((Rp.of_own HO1.out).mono hB2)
  clear hR2 hB2
  go_wp2_with fail
  refine (Rows_any a2 n c2 ps w2 HR2.out).mono ?_
  rw [HV.out]
  rintro e w3 ⟨rfl, hB3⟩
  have HB3 := hide (HB2.out.trans (hB3.mono HB2.out.size))
  have HS3 := hide (HS2.out.mono hB3)
  clear hB3
  simp only
  go_wp2_with fail
  refine (SetOf_any m hm w3).mono ?_
  rw [HSL.out]
  rintro e w4 ⟨a4, c4, rfl, hO4, hB4⟩
  have HS4 := hide (HS3.out.mono hB4)
  have HO4 := hide (Rp.of_own hO4)
  have HB4 := hide (HB3.out.trans (hB4.mono HB3.out.size))
  clear hO4 hB4
  go_wp2_with fail
  refine (samePieces_any _ _ _ (setL m) _ _ _ (setL m) w4 HS4.out HO4.out).mono ?_
  rintro e w5 ⟨rfl, q, hw5⟩
  subst w5
  rw [show decide (setL m = setL m) = true from by simp]
  have HB5 := hide (HB4.out.trans (drewN_below _ w4 q))
  generalize w4.drewN q = w5 at *
  go_wp2_with fail
  go_ret
  exact ⟨rfl, HB5.out⟩

set_option maxRecDepth 100000 in
set_option maxHeartbeats 4000000 in
theorem law3_ok_bad (x : Int) (a : Option Addr) (n c : Nat) (ps : List Pc) (w : World) (h : Rp w a n c ps) (hr : n * 16 ≤ 140737488351232) (m : Nat) (hxm : x = m) (hm : m ≤ 9) (hl : n ≤ 7) (hp : pcsB ps = false) :
    Calls Try.prog 3 #[.int .i64 x, .slice a n c] w fun e w' => e = .returned (.bool true) ∧ Below w.heap.size w w' := by
  have hcm := h.max
  have hcn := h.cap
  unfold maxLen at hcm
  have HH := hide h
  have HL := hide h.len
  have HV := hide (rowsV_bad ps (by rw [h.len]; exact hl) hp)
  have HP := hide hp
  have hlI : ¬ (7 : Int) < (n : Int) := by omega
  clear hp
  subst hxm
  have hx1 : ¬ (m : Int) < 0 := by omega
  have hx1d : decide ((m : Int) < 0) = false := by simp
  have hx2 : ¬ (9 : Int) < (m : Int) := by omega
  obtain ⟨SL, hSL⟩ : ∃ SL, (setL m).length = SL := ⟨_, rfl⟩
  have HSL := hide hSL
  clear hSL
  clear h
  go_enter Try.func3, Try.ntmps3
  go_wp2_with fail
  refine (Set_any m hm w).mono ?_
  rw [HSL.out]
  rintro e w1 ⟨a1, c1, rfl, hO1, hB1⟩
  have hc1 := (Rp.of_own hO1).max
  have hc1' := (Rp.of_own hO1).cap
  unfold maxLen at hc1
  have HO1 := hide hO1
  have HB1 := hide hB1
  clear hO1 hB1
  go_wp2_with fail
  refine (pieces_any a n c ps w1 (HH.out.mono HB1.out) hr).mono ?_
  rintro e w2 ⟨a2, c2, rfl, hR2, hB2⟩
  have HR2 := hide hR2
  have HB2 := hide (HB1.out.trans (hB2.mono HB1.out.size))
  have HS2 := hide ((Rp.of_own HO1.out).mono hB2)
  clear hR2 hB2
  go_wp2_with fail
  refine (Rows_any a2 n c2 ps w2 HR2.out).mono ?_
  rw [HV.out]
  rintro e w3 ⟨rfl, hB3⟩
  have HB3 := hide (HB2.out.trans (hB3.mono HB2.out.size))
  have HS3 := hide (HS2.out.mono hB3)
  clear hB3
  simp only
  go_wp2_with fail
  refine (SetOf_any m hm w3).mono ?_
  rw [HSL.out]
  rintro e w4 ⟨a4, c4, rfl, hO4, hB4⟩
  have HS4 := hide (HS3.out.mono hB4)
  have HO4 := hide (Rp.of_own hO4)
  have HB4 := hide (HB3.out.trans (hB4.mono HB3.out.size))
  clear hO4 hB4
  go_wp2_with fail
  refine (samePieces_any _ _ _ (setL m) _ _ _ (setL m) w4 HS4.out HO4.out).mono ?_
  rintro e w5 ⟨rfl, q, hw5⟩
  subst w5
  rw [show decide (setL m = setL m) = true from by simp]
  have HB5 := hide (HB4.out.trans (drewN_below _ w4 q))
  generalize w4.drewN q = w5 at *
  go_wp2_with fail
  refine (PiecesMay_any a n c ps w5 (HH.out.mono HB5.out)).mono ?_
  rw [HP.out]
  rintro e w6 ⟨rfl, hB6⟩
  have HB6 := hide (HB5.out.trans (hB6.mono HB5.out.size))
  clear hB6
  go_wp2_with fail
  go_ret
  exact ⟨rfl, HB6.out⟩

set_option maxRecDepth 100000 in
set_option maxHeartbeats 4000000 in
theorem law3_ok_ok (x : Int) (a : Option Addr) (n c : Nat) (ps : List Pc) (w : World) (h : Rp w a n c ps) (hr : n * 16 ≤ 140737488351232) (m : Nat) (hxm : x = m) (hm : m ≤ 9) (hl : n ≤ 7) (hp : pcsB ps = true) :
    Calls Try.prog 3 #[.int .i64 x, .slice a n c] w fun e w' => e = .returned (.bool true) ∧ Below w.heap.size w w' := by
  have hcm := h.max
  have hcn := h.cap
  unfold maxLen at hcm
  have HH := hide h
  have HL := hide h.len
  obtain ⟨R, hR⟩ : ∃ R, roV ps (-1) = R := ⟨_, rfl⟩
  have HV := hide (rowsV_ok ps (by rw [h.len]; exact hl) hp)
  rw [hR] at HV
  have HR := hide hR
  have HP := hide hp
  have hlI : ¬ (7 : Int) < (n : Int) := by omega
  have hRR : ((R : Int) == (R : Int)) = true := by simp
  clear hp hR
  subst hxm
  have hx1 : ¬ (m : Int) < 0 := by omega
  have hx1d : decide ((m : Int) < 0) = false := by simp
  have hx2 : ¬ (9 : Int) < (m : Int) := by omega
  obtain ⟨SL, hSL⟩ : ∃ SL, (setL m).length = SL := ⟨_, rfl⟩
  have HSL := hide hSL
  clear hSL
  clear h
  go_enter Try.func3, Try.ntmps3
  go_wp2_with fail
  refine (Set_any m hm w).mono ?_
  rw [HSL.out]
  rintro e w1 ⟨a1, c1, rfl, hO1, hB1⟩
  have hc1 := (Rp.of_own hO1).max
  have hc1' := (Rp.of_own hO1).cap
  unfold maxLen at hc1
  have HO1 := hide hO1
  have HB1 := hide hB1
  clear hO1 hB1
  go_wp2_with fail
  refine (pieces_any a n c ps w1 (HH.out.mono HB1.out) hr).mono ?_
  rintro e w2 ⟨a2, c2, rfl, hR2, hB2⟩
  have HR2 := hide hR2
  have HB2 := hide (HB1.out.trans (hB2.mono HB1.out.size))
  have HS2 := hide ((Rp.of_own HO1.out).mono hB2)
  clear hR2 hB2
  go_wp2_with fail
  refine (Rows_any a2 n c2 ps w2 HR2.out).mono ?_
  rw [HV.out]
  rintro e w3 ⟨rfl, hB3⟩
  have HB3 := hide (HB2.out.trans (hB3.mono HB2.out.size))
  have HS3 := hide (HS2.out.mono hB3)
  clear hB3
  simp only
  go_wp2_with fail
  refine (SetOf_any m hm w3).mono ?_
  rw [HSL.out]
  rintro e w4 ⟨a4, c4, rfl, hO4, hB4⟩
  have HS4 := hide (HS3.out.mono hB4)
  have HO4 := hide (Rp.of_own hO4)
  have HB4 := hide (HB3.out.trans (hB4.mono HB3.out.size))
  clear hO4 hB4
  go_wp2_with fail
  refine (samePieces_any _ _ _ (setL m) _ _ _ (setL m) w4 HS4.out HO4.out).mono ?_
  rintro e w5 ⟨rfl, q, hw5⟩
  subst w5
  rw [show decide (setL m = setL m) = true from by simp]
  have HB5 := hide (HB4.out.trans (drewN_below _ w4 q))
  generalize w4.drewN q = w5 at *
  go_wp2_with fail
  refine (PiecesMay_any a n c ps w5 (HH.out.mono HB5.out)).mono ?_
  rw [HP.out]
  rintro e w6 ⟨rfl, hB6⟩
  have HB6 := hide (HB5.out.trans (hB6.mono HB5.out.size))
  clear hB6
  go_wp2_with fail
  refine (RowsOf_any n hl a c ps (-1) w6 (HH.out.mono HB6.out) HP.out (by omega) (by omega)).mono ?_
  rw [HR.out]
  rintro e w7 ⟨rfl, hB7⟩
  have HB7 := hide (HB6.out.trans (hB7.mono HB6.out.size))
  clear hB7
  go_wp2_with fail
  go_ret
  exact ⟨rfl, HB7.out⟩

theorem law3_any (x : Int) (a : Option Addr) (n c : Nat) (ps : List Pc) (w : World) (h : Rp w a n c ps) (hr : n * 16 ≤ 140737488351232) :
    Calls Try.prog 3 #[.int .i64 x, .slice a n c] w fun e w' => e = .returned (.bool true) ∧ Below w.heap.size w w' := by
  have hl : 7 < n ∨ (n ≤ 7 ∧ pcsB ps = false) ∨ (n ≤ 7 ∧ pcsB ps = true) := by
    by_cases h7 : 7 < n
    · exact Or.inl h7
    · cases hp : pcsB ps
      · exact Or.inr (Or.inl ⟨by omega, rfl⟩)
      · exact Or.inr (Or.inr ⟨by omega, rfl⟩)
  by_cases h0 : x < 0
  · rcases hl with h1 | ⟨h1, h2⟩ | ⟨h1, h2⟩
    · exact law3_lo_big x a n c ps w h hr h0 h1
    · exact law3_lo_bad x a n c ps w h hr h0 h1 h2
    · exact law3_lo_ok x a n c ps w h hr h0 h1 h2
  · by_cases h9 : 9 < x
    · rcases hl with h1 | ⟨h1, h2⟩ | ⟨h1, h2⟩
      · exact law3_hi_big x a n c ps w h hr h0 h9 h1
      · exact law3_hi_bad x a n c ps w h hr h0 h9 h1 h2
      · exact law3_hi_ok x a n c ps w h hr h0 h9 h1 h2
    · have hx : x = (x.toNat : Int) := by omega
      rcases hl with h1 | ⟨h1, h2⟩ | ⟨h1, h2⟩
      · exact law3_ok_big x a n c ps w h hr x.toNat hx (by omega) h1
      · exact law3_ok_bad x a n c ps w h hr x.toNat hx (by omega) h1 h2
      · exact law3_ok_ok x a n c ps w h hr x.toNat hx (by omega) h1 h2

end Go.Proofs.Ytjcglpnpdalcjaa
