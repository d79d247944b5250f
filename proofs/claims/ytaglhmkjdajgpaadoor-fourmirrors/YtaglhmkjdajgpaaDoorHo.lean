/-
  Which boards may be a well, and the well that is made of one; who has a row. No conditions beyond those that each theorem bears.
-/
import Derived.Test.YtaglhmkjdajgpaaDoorCt
import Derived.Test.YtaglhmkjdajgpaaDoorCtM
namespace Go.Proofs.YtaglhmkjdajgpaaDoor
open Go.RowKit

/-- Does a sign stand above an empty place, at the first j? -/
def hngJ (W : Nat) (Z : List Int) (j : Nat) : Bool := (List.range j).any fun i => Z.getD i 0 != 0 && Z.getD (i + W) 0 == 0

def hng (W : Nat) (Z : List Int) : Bool := hngJ W Z (Z.length - W)

theorem hngJ_zero (W : Nat) (Z : List Int) : hngJ W Z 0 = false := rfl
theorem hngJ_succ (W : Nat) (Z : List Int) (j : Nat) : hngJ W Z (j + 1) = (hngJ W Z j || (Z.getD j 0 != 0 && Z.getD (j + W) 0 == 0)) := by
  unfold hngJ; rw [List.range_succ, List.any_append]; simp
theorem hngJ_mono {W : Nat} {Z : List Int} {i j : Nat} (h : i ≤ j) (hi : hngJ W Z i = true) : hngJ W Z j = true := by
  unfold hngJ at *
  rw [List.any_eq_true] at *
  obtain ⟨x, hx, h2⟩ := hi
  exact ⟨x, by rw [List.mem_range] at *; omega, h2⟩

attribute [local irreducible] hngJ

set_option maxRecDepth 100000 in
set_option maxHeartbeats 2000000 in
theorem hangs_any (gW gH : Nat) (a : Option Addr) (n c : Nat) (zs : List Int) (hgW : 1 ≤ gW ∧ gW ≤ 10) (hgH : 1 ≤ gH ∧ gH ≤ 10) (hm : gW * gH = n) (w : World) (h : Rd w a n c zs) :
    Calls Tryd.prog 46 #[.agg (gdA gW gH a n c)] w fun e w' => e = .returned (.bool (hng gW zs)) ∧ Below w.heap.size w w' := by
  have hcm := h.max
  unfold maxLen at hcm
  have hcc := h.cap
  have hlen := h.len
  have hn1 : gW ≤ n := by rw [← hm]; exact Nat.le_mul_of_pos_right _ (by omega)
  have hnq : n ≤ 100 := by
    have : gW * gH ≤ 10 * 10 := Nat.mul_le_mul hgW.2 hgH.2
    omega
  obtain ⟨b, off, rfl, hc⟩ := h.cells (by omega)
  have hgb : b < w.heap.size := World.block_lt_of_cell? w _ (hc 0 (by omega))
  obtain ⟨w1, hw1⟩ : ∃ w1, w.alloc (.cells (gdA gW gH (some ⟨b, off, none⟩) n c) 24) = w1 := ⟨_, rfl⟩
  have HB : Hid (Below w.heap.size w w1) := hide (by rw [← hw1]; exact (Below.refl _ _).alloc (Nat.le_refl _) _)
  have HC : Hid (∀ i, i < n → w1.cell? ⟨b, off + i, none⟩ = some (.int .i64 (zs.getD i 0))) := hide (fun i hi => (HB.out.cell (p := ⟨b, off + i, none⟩) hgb).trans (hc i hi))
  obtain ⟨g0, g1, g2⟩ := (show Gd w1 w.heap.size gW gH (some ⟨b, off, none⟩) n c by rw [← hw1]; exact Gd.new _ _ _ _ _ _).cells
  obtain ⟨R, hR⟩ : ∃ R, hng gW zs = R := ⟨_, rfl⟩
  have HY : Hid (∀ j, j ≤ n - gW → hngJ gW zs j = true → R = true) := hide (fun j hj hh => by rw [← hR]; unfold hng; exact hngJ_mono (by omega) hh)
  have HN : Hid (hngJ gW zs (n - gW) = false → R = false) := hide (fun hh => by rw [← hR]; unfold hng; rw [hlen]; exact hh)
  rw [hR]
  clear h hc hm hR hlen
  go_enter Tryd.func46, Tryd.ntmps46
  go_upto_region 1 with fail
  clear hw1
  go_wp2_with fail
  go_loopw [3] (fun v wr => ∃ j q : Nat, v = .int .i64 q ∧ q = j + gW ∧ q ≤ n ∧ Hid (hngJ gW zs j = false) ∧ w1 = wr) (fun v _ => n - (intOf v).toNat)
  case atStart => exact ⟨0, gW, rfl, by omega, hn1, hide (hngJ_zero _ _), rfl⟩
  case round =>
    obtain ⟨j, q, rfl, hq, hqn, hJ, rfl⟩ := hrel
    by_cases hlt : q < n
    · have hlt' : (q : Int) < (n : Int) := by omega
      have cq := HC.out q hlt
      have cj := HC.out j (by omega)
      have hqj : (q : Int) - (gW : Int) = (j : Int) := by omega
      have HS := hide (hngJ_succ gW zs j)
      rw [hJ.out, Bool.false_or, ← hq] at HS
      have HYS := hide (HY.out (j + 1) (by omega))
      obtain ⟨zq, hzq⟩ : ∃ z, zs.getD q 0 = z := ⟨_, rfl⟩
      obtain ⟨zj, hzj⟩ : ∃ z, zs.getD j 0 = z := ⟨_, rfl⟩
      rw [hzq] at cq HS
      rw [hzj] at cj HS
      have HQ := hide hq
      clear hzq hzj hq
      by_cases e1 : zq = 0
      · have b1 : (zq == (0 : Int)) = true := by simpa using e1
        by_cases e2 : zj = 0
        · have b2 : (zj != (0 : Int)) = false := by simpa using e2
          have HS2 : Hid (hngJ gW zs (j + 1) = false) := hide (by rw [HS.out, b2]; rfl)
          clear e1 e2 HS HYS
          go_wp2_with fail
          exact ⟨⟨j + 1, q + 1, by go_num, by have := HQ.out; omega, by omega, HS2, trivial⟩, by simp [intOf]; omega⟩
        · have b2 : (zj != (0 : Int)) = true := by simpa using e2
          have HR := hide (HYS.out (by rw [HS.out, b1, b2]; rfl))
          clear e1 e2 HS HYS
          go_wp2_with fail
          go_ret
          exact ⟨ret_bool HR.out.symm, HB.out⟩
      · have b1 : (zq == (0 : Int)) = false := by simpa using e1
        have HS2 : Hid (hngJ gW zs (j + 1) = false) := hide (by rw [HS.out, b1, Bool.and_false])
        clear e1 HS HYS
        go_wp2_with fail
        exact ⟨⟨j + 1, q + 1, by go_num, by have := HQ.out; omega, by omega, HS2, trivial⟩, by simp [intOf]; omega⟩
    · have hlt' : ¬ (q : Int) < (n : Int) := by omega
      have HR := hide (HN.out (by rw [show n - gW = j by omega]; exact hJ.out))
      clear hq
      go_wp2_with fail
      go_ret
      exact ⟨ret_bool HR.out.symm, HB.out⟩

/-- May such a board be a well? -/
def wmG (W H : Int) (zs : List Int) : Bool := mayG W H zs && !hng W.toNat zs

set_option maxRecDepth 100000 in
set_option maxHeartbeats 2000000 in
theorem WellMay_any (W H : Int) (a : Option Addr) (n c : Nat) (zs : List Int) (w : World) (h : Rd w a n c zs) :
    Calls Tryd.prog 11 #[.agg (gdA W H a n c)] w fun e w' => e = .returned (.bool (wmG W H zs)) ∧ Below w.heap.size w w' := by
  have HM := hide (fun w1 (hb : Below w.heap.size w w1) => GridMay_any W H a n c zs w1 (h.mono hb))
  have HB0 : Hid (Below w.heap.size w (w.alloc (.cells (gdA W H a n c) 24))) := hide ((Below.refl _ _).alloc (Nat.le_refl _) _)
  have G0 := Gd.new w W H a n c
  by_cases hmay : mayP W H zs
  rotate_left
  · have hV := mayG_no hmay
    have HV : Hid (wmG W H zs = false) := hide (by unfold wmG; rw [hV]; rfl)
    rw [hV] at HM
    clear h hV hmay
    go_enter Tryd.func11, Tryd.ntmps11
    go_wp2_with (refine wpList_load_gd rfl (.tmp 1) rfl w.heap.size rfl G0 ?_)
    clear G0
    refine (HM.out _ HB0.out).mono ?_
    rintro e w2 ⟨rfl, hb2⟩
    have HB2 := hide (HB0.out.trans (hb2.mono HB0.out.size))
    clear hb2 HB0 HM
    go_wp2_with fail
    go_ret
    exact ⟨ret_bool HV.out.symm, HB2.out⟩
  have hV := mayG_yes hmay
  have HW : Hid (wmG W H zs = !hng W.toNat zs) := hide (by unfold wmG; rw [hV]; rfl)
  rw [hV] at HM
  obtain ⟨gW, gH, rfl, rfl, hgW, hgH, hgm, hz⟩ := may_nat hmay
  rw [Int.toNat_natCast] at HW
  have hlen := h.len
  rw [hlen] at hgm hz
  have hcm := h.max
  unfold maxLen at hcm
  have hcc := h.cap
  have hn1 : gW ≤ n := by rw [← hgm]; exact Nat.le_mul_of_pos_right _ (by omega)
  have hnq : n ≤ 100 := by
    have : gW * gH ≤ 10 * 10 := Nat.mul_le_mul hgW.2 hgH.2
    omega
  obtain ⟨b, off, rfl, hc⟩ := h.cells (by omega)
  have hgb : b < w.heap.size := World.block_lt_of_cell? w _ (hc 0 (by omega))
  obtain ⟨R, hR⟩ : ∃ R, wmG gW gH zs = R := ⟨_, rfl⟩
  rw [hR] at HW ⊢
  have HY : Hid (∀ j, j ≤ n - gW → hngJ gW zs j = true → R = false) := hide (fun j hj hh => by rw [HW.out]; unfold hng; rw [hngJ_mono (by omega) hh]; rfl)
  have HN : Hid (hngJ gW zs (n - gW) = false → R = true) := hide (fun hh => by rw [HW.out]; unfold hng; rw [hlen, hh]; rfl)
  obtain ⟨w1, hw1⟩ : ∃ w1, w.alloc (.cells (gdA gW gH (some ⟨b, off, none⟩) n c) 24) = w1 := ⟨_, rfl⟩
  have HC0 : Hid (∀ w2, Below w.heap.size w w2 → ∀ i, i < n → w2.cell? ⟨b, off + i, none⟩ = some (.int .i64 (zs.getD i 0))) := hide (fun w2 hb i hi => (hb.cell (p := ⟨b, off + i, none⟩) hgb).trans (hc i hi))
  have HG1 := hide G0
  have hs1 : w.heap.size < (w.alloc (.cells (gdA gW gH (some ⟨b, off, none⟩) n c) 24)).heap.size := by simp
  clear h hc hR hlen hgm hz hV hmay hw1
  go_enter Tryd.func11, Tryd.ntmps11
  go_wp2_with (refine wpList_load_gd rfl (.tmp 1) rfl w.heap.size rfl G0 ?_)
  clear G0
  refine (HM.out _ HB0.out).mono ?_
  rintro e w2 ⟨rfl, hb2⟩
  have HB2 := hide (HB0.out.trans (hb2.mono HB0.out.size))
  obtain ⟨g0, g1, g2⟩ := (HG1.out.below hb2 hs1).cells
  have HC := hide (HC0.out w2 HB2.out)
  clear hb2 HB0 HM HG1 HC0
  go_wp2_with fail
  go_loopw [3] (fun v wr => ∃ j : Nat, v = .int .i64 j ∧ j + gW ≤ n ∧ Hid (hngJ gW zs j = false) ∧ w2 = wr) (fun v _ => n - (intOf v).toNat)
  case atStart => exact ⟨0, rfl, by omega, hide (hngJ_zero _ _), rfl⟩
  case round =>
    obtain ⟨j, rfl, hjn, hJ, rfl⟩ := hrel
    obtain ⟨q, hq⟩ : ∃ q, j + gW = q := ⟨_, rfl⟩
    have hqj : (j : Int) + (gW : Int) = (q : Int) := by omega
    by_cases hlt : q < n
    · have hlt' : (q : Int) < (n : Int) := by omega
      have cq := HC.out q hlt
      have cj := HC.out j (by omega)
      have HS := hide (hngJ_succ gW zs j)
      rw [hJ.out, Bool.false_or, hq] at HS
      have HYS := hide (HY.out (j + 1) (by omega))
      obtain ⟨zq, hzq⟩ : ∃ z, zs.getD q 0 = z := ⟨_, rfl⟩
      obtain ⟨zj, hzj⟩ : ∃ z, zs.getD j 0 = z := ⟨_, rfl⟩
      rw [hzq] at cq HS
      rw [hzj] at cj HS
      have HQ := hide hq
      clear hzq hzj hq
      by_cases e2 : zj = 0
      · have b2 : (zj != (0 : Int)) = false := by simpa using e2
        have HS2 : Hid (hngJ gW zs (j + 1) = false) := hide (by rw [HS.out, b2]; rfl)
        clear e2 HS HYS
        go_wp2_with fail
        exact ⟨⟨j + 1, by go_num, by have := HQ.out; omega, HS2, trivial⟩, by simp [intOf]; omega⟩
      · have b2 : (zj != (0 : Int)) = true := by simpa using e2
        by_cases e1 : zq = 0
        · have b1 : (zq == (0 : Int)) = true := by simpa using e1
          have HR := hide (HYS.out (by rw [HS.out, b1, b2]; rfl))
          clear e1 e2 HS HYS
          go_wp2_with fail
          go_ret
          exact ⟨ret_bool HR.out.symm, HB2.out⟩
        · have b1 : (zq == (0 : Int)) = false := by simpa using e1
          have HS2 : Hid (hngJ gW zs (j + 1) = false) := hide (by rw [HS.out, b1, Bool.and_false])
          clear e1 e2 HS HYS
          go_wp2_with fail
          exact ⟨⟨j + 1, by go_num, by have := HQ.out; omega, HS2, trivial⟩, by simp [intOf]; omega⟩
    · have hlt' : ¬ (q : Int) < (n : Int) := by omega
      have HR := hide (HN.out (by rw [show n - gW = j by omega]; exact hJ.out))
      clear hq
      go_wp2_with fail
      go_ret
      exact ⟨ret_bool HR.out.symm, HB2.out⟩

end Go.Proofs.YtaglhmkjdajgpaaDoor
