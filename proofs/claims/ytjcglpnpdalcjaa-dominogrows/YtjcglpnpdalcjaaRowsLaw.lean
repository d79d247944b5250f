/-
  The law DominoRows, walked. No conditions beyond those that each theorem bears.
-/
import Derived.Test.YtjcglpnpdalcjaaSame
namespace Go.Proofs.Ytjcglpnpdalcjaa
open Go.RowKit
attribute [local irreducible] hz hzL laid

theorem rowE_big (ps : List Pc) (h : 60 < ps.length) : rowE ps = ([], 2) := by
  have : fltE ps 60 = 2 := by unfold fltE; rw [if_pos h]
  rw [rowE, if_pos (by rw [this]; decide), this]

theorem rowE_bad (ps : List Pc) (h : ps.length ≤ 60) (hp : pcsB ps = false) : rowE ps = ([], 3) := by
  have : fltE ps 60 = 3 := by unfold fltE; rw [if_neg (by omega), hp]; rfl
  rw [rowE, if_pos (by rw [this]; decide), this]

theorem flt_ok (ps : List Pc) (h : ps.length ≤ 60) (hp : pcsB ps = true) : fltE ps 60 = 0 := by unfold fltE; rw [if_neg (by omega), hp]; rfl

theorem rowE_no (ps : List Pc) (h : ps.length ≤ 60) (hp : pcsB ps = true) (hr : rcB ps = false) : rowE ps = ([], 10) := by
  rw [rowE, if_neg (by rw [flt_ok ps h hp]; simp)]
  have ho : (begF ps).2 = odN (endN ps) 10 := by rw [begF, begTo_odd]
  by_cases h2 : 2 < (begF ps).2
  · rw [if_pos h2]
  · rw [if_neg h2, if_pos]
    intro hl
    have := (laid_all ps hp (by omega)).1 hl
    rw [rcB, this, decide_eq_true (by omega)] at hr
    cases hr

theorem rowE_yes (ps : List Pc) (h : ps.length ≤ 60) (hp : pcsB ps = true) (hr : rcB ps = true) : rowE ps = (laid ps, 0) ∧ (laid ps).length = ps.length ∧ isR (laid ps) = true ∧ ((laid ps).map lf).Perm (ps.map lf) := by
  have ho : (begF ps).2 = odN (endN ps) 10 := by rw [begF, begTo_odd]
  rw [rcB, Bool.and_eq_true, decide_eq_true_iff] at hr
  have h2 : (begF ps).2 ≤ 2 := by omega
  have hl := (laid_all ps hp h2).2 hr.2
  obtain ⟨v, t, L, _, _, hT, hP, _, _, _⟩ := laid_fin ps hp h2
  have hLn : L = [] := by
    have := hP.length_eq
    rw [List.length_append, List.length_map, List.length_map] at this
    exact List.eq_nil_of_length_eq_zero (by omega)
  rw [hLn, List.append_nil] at hP
  refine ⟨?_, hl, hT.isR, hP⟩
  rw [rowE, if_neg (by rw [flt_ok ps h hp]; simp), if_neg (by omega), if_neg (by simpa using hl)]

set_option maxRecDepth 100000 in
set_option maxHeartbeats 4000000 in
theorem law4_any (a : Option Addr) (n c : Nat) (ps : List Pc) (w : World) (h : Rp w a n c ps) (hr : n * 16 ≤ 140737488351232) :
    Calls Try.prog 4 #[.slice a n c] w fun e w' => e = .returned (.bool true) ∧ Below w.heap.size w w' := by
  have hcm := h.max
  have hcn := h.cap
  unfold maxLen at hcm
  have HH := hide h
  have HL := hide h.len
  clear h
  by_cases hbig : 60 < n
  · have hbig' : (60 : Int) < (n : Int) := by omega
    have HE := hide (rowE_big ps (by rw [HL.out]; exact hbig))
    go_enter Try.func4, Try.ntmps4
    go_wp2_with fail
    refine (pieces_any a n c ps w HH.out hr).mono ?_
    rintro e w1 ⟨a1, c1, rfl, hR1, hB1⟩
    have HR1 := hide hR1
    have HB1 := hide hB1
    clear hR1 hB1
    go_wp2_with fail
    refine (Row_any a1 n c1 ps w1 HR1.out).mono ?_
    rw [HE.out]
    rintro e w2 ⟨a2, c2, rfl, hR2, hB2⟩
    have HB2 := hide (HB1.out.trans (hB2.mono HB1.out.size))
    clear hR2 hB2
    simp only [List.length_nil]
    go_wp2_with fail
    go_ret
    exact ⟨rfl, HB2.out⟩
  · have hbig' : ¬ (60 : Int) < (n : Int) := by omega
    have hlen : ps.length ≤ 60 := by rw [HL.out]; omega
    cases hp : pcsB ps with
    | false =>
      have HE := hide (rowE_bad ps hlen hp)
      have HP := hide hp
      clear hp hlen
      go_enter Try.func4, Try.ntmps4
      go_wp2_with fail
      refine (pieces_any a n c ps w HH.out hr).mono ?_
      rintro e w1 ⟨a1, c1, rfl, hR1, hB1⟩
      have HR1 := hide hR1
      have HB1 := hide hB1
      clear hR1 hB1
      go_wp2_with fail
      refine (Row_any a1 n c1 ps w1 HR1.out).mono ?_
      rw [HE.out]
      rintro e w2 ⟨a2, c2, rfl, hR2, hB2⟩
      have HB2 := hide (HB1.out.trans (hB2.mono HB1.out.size))
      clear hR2 hB2
      simp only [List.length_nil]
      go_wp2_with fail
      refine (PiecesMay_any a n c ps w2 (HH.out.mono HB2.out)).mono ?_
      rw [HP.out]
      rintro e w3 ⟨rfl, hB3⟩
      have HB3 := hide (HB2.out.trans (hB3.mono HB2.out.size))
      clear hB3
      go_wp2_with fail
      go_ret
      exact ⟨rfl, HB3.out⟩
    | true =>
      have HP := hide hp
      cases hc : rcB ps with
      | false =>
        have HE := hide (rowE_no ps hlen hp hc)
        have HC := hide hc
        clear hp hlen hc
        go_enter Try.func4, Try.ntmps4
        go_wp2_with fail
        refine (pieces_any a n c ps w HH.out hr).mono ?_
        rintro e w1 ⟨a1, c1, rfl, hR1, hB1⟩
        have HR1 := hide hR1
        have HB1 := hide hB1
        clear hR1 hB1
        go_wp2_with fail
        refine (Row_any a1 n c1 ps w1 HR1.out).mono ?_
        rw [HE.out]
        rintro e w2 ⟨a2, c2, rfl, hR2, hB2⟩
        have HB2 := hide (HB1.out.trans (hB2.mono HB1.out.size))
        clear hR2 hB2
        simp only [List.length_nil]
        go_wp2_with fail
        refine (PiecesMay_any a n c ps w2 (HH.out.mono HB2.out)).mono ?_
        rw [HP.out]
        rintro e w3 ⟨rfl, hB3⟩
        have HB3 := hide (HB2.out.trans (hB3.mono HB2.out.size))
        clear hB3
        go_wp2_with fail
        refine (RowCan_any a n c ps w3 (HH.out.mono HB3.out) (by omega) HP.out).mono ?_
        rw [HC.out]
        rintro e w4 ⟨rfl, hB4⟩
        have HB4 := hide (HB3.out.trans (hB4.mono HB3.out.size))
        clear hB4
        go_wp2_with fail
        go_ret
        exact ⟨rfl, HB4.out⟩
      | true =>
        obtain ⟨he, hl, hi, hpm⟩ := rowE_yes ps hlen hp hc
        rw [HL.out] at hl
        have HE := hide he
        have HLL := hide hl
        have HI := hide hi
        have HPM := hide hpm
        have HC := hide hc
        clear hp hlen hc he hl hi hpm
        go_enter Try.func4, Try.ntmps4
        go_wp2_with fail
        refine (pieces_any a n c ps w HH.out hr).mono ?_
        rintro e w1 ⟨a1, c1, rfl, hR1, hB1⟩
        have HR1 := hide hR1
        have HB1 := hide hB1
        clear hR1 hB1
        go_wp2_with fail
        refine (Row_any a1 n c1 ps w1 HR1.out).mono ?_
        rw [HE.out]
        simp only [HLL.out]
        rintro e w2 ⟨a2, c2, rfl, hR2, hB2⟩
        have hc2 := hR2.max
        have hc3 := hR2.cap
        unfold maxLen at hc2
        have HR2 := hide hR2
        have HB2 := hide (HB1.out.trans (hB2.mono HB1.out.size))
        clear hR2 hB2
        go_wp2_with fail
        refine (PiecesMay_any a n c ps w2 (HH.out.mono HB2.out)).mono ?_
        rw [HP.out]
        rintro e w3 ⟨rfl, hB3⟩
        have HR3 := hide (HR2.out.mono hB3)
        have HB3 := hide (HB2.out.trans (hB3.mono HB2.out.size))
        clear hB3
        go_wp2_with fail
        refine (RowCan_any a n c ps w3 (HH.out.mono HB3.out) (by omega) HP.out).mono ?_
        rw [HC.out]
        rintro e w4 ⟨rfl, hB4⟩
        have HR4 := hide (HR3.out.mono hB4)
        have HB4 := hide (HB3.out.trans (hB4.mono HB3.out.size))
        clear hB4
        go_wp2_with fail
        refine (RowIs_any a2 n c2 (laid ps) w4 HR4.out).mono ?_
        rw [HI.out]
        rintro e w5 ⟨rfl, q, hw5⟩
        subst w5
        have HR5 := hide (HR4.out.mono (drewN_below _ w4 q))
        have HB5 := hide (HB4.out.trans (drewN_below _ w4 q))
        generalize w4.drewN q = w5 at *
        go_wp2_with fail
        refine (SamePieces_yes a2 n c2 (laid ps) a c ps w5 HR5.out (HH.out.mono HB5.out) (by omega) HPM.out).mono ?_
        rintro e w6 ⟨rfl, hB6⟩
        have HB6 := hide (HB5.out.trans (hB6.mono HB5.out.size))
        clear hB6
        go_wp2_with fail
        go_ret
        exact ⟨rfl, HB6.out⟩

end Go.Proofs.Ytjcglpnpdalcjaa
