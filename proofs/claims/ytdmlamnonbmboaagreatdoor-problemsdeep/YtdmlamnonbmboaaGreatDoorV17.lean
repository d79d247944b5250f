/-
  Chess: may a pawn just have gone over a place: mayPass, walked. No conditions beyond those that each theorem bears.
  Chess: what pieces are worth; how many there are of each kind. No conditions beyond those that each theorem bears.
-/
import Derived.Test.YtdmlamnonbmboaaGreatDoorV16
import Derived.Test.YtdmlamnonbmboaaGreatDoorV15
namespace Go.Proofs.YtdmlamnonbmboaaGreatDoor
open Go.RowKit Go.Shelf

theorem quo8 {e : Int} (h1 : -9223372036854775808 ≤ e) (h2 : e ≤ 9223372036854775807) : (e.tdiv 8 = 5 ↔ 40 ≤ e ∧ e ≤ 47) ∧ (e.tdiv 8 = 2 ↔ 16 ≤ e ∧ e ≤ 23) := by
  by_cases h : 0 ≤ e
  · rw [Int.tdiv_eq_ediv_of_nonneg h]; omega
  · have hn : e.tdiv 8 ≤ 0 := by
      have := Int.tdiv_eq_ediv_of_nonneg (a := -e) (b := 8) (by omega)
      rw [Int.neg_tdiv] at this
      omega
    omega

set_option maxRecDepth 100000 in
set_option maxHeartbeats 4000000 in
theorem mayPass_any (a : Option Addr) (c : Nat) (Z : List Int) (t : Int) (ht : t = 0 ∨ t = 1) (k e h f : Int) (he1 : -9223372036854775808 ≤ e) (he2 : e ≤ 9223372036854775807) (w : World) (hz : Rd w a 64 c Z) :
    Calls Tryz.prog 41 #[.agg (chA a 64 c t k e h f)] w fun r w' => r = .returned (.bool (dB (Pas Z t e))) ∧ Below w.heap.size w w' := by
  rcases ht with rfl | rfl
  · obtain ⟨w1, hw1⟩ : ∃ w1, w.alloc (.cells (chA a 64 c 0 k e h f) 24) = w1 := ⟨_, rfl⟩
    have B1 : Below w.heap.size w w1 := by rw [← hw1]; exact (Below.refl _ w).alloc (Nat.le_refl _) _
    have HFW : Hid (∀ w, Calls Tryz.prog 76 #[.int .i64 0] w fun e w' => e = .returned (.int .i64 8) ∧ w' = w) := hide (forward_any 0)
    have C1 : Ch w1 w.heap.size a 64 c 0 k e h f := by rw [← hw1]; exact Ch.new w a 64 c 0 k e h f
    have HB1 := hide B1
    have HZ1 := hide (hz.mono B1)
    obtain ⟨g0, g1, g2, g3, g4, g5⟩ := C1.cells
    clear hz B1 C1
    obtain ⟨q5, q2⟩ := quo8 he1 he2
    have HQ5 := hide q5
    have HQ2 := hide q2
    clear q5 q2
    by_cases hem : e = -1
    · rw [show dB (Pas Z 0 e) = true from dB_t (Or.inl hem)]
      subst hem
      go_enter Tryz.func41, Tryz.ntmps41
      go_upto_region 1 with fail
      clear hw1
      go_wp2_with fail
      go_ret
      exact ⟨rfl, HB1.out⟩
    · have hem' : (e == -1) = false := by simp [hem]
      obtain ⟨zb, zo, rfl, hzc⟩ := HZ1.out.cells (by omega)
      have hcm := HZ1.out.max
      unfold maxLen at hcm
      have hcc := HZ1.out.cap
      have HZC : Hid (∀ i, i < 64 → w1.cell? ⟨zb, zo + i, none⟩ = some (.int .i64 (zg Z i))) := hide hzc
      clear hzc HZ1
      have HPI : Hid (dB (Pas Z 0 e) = dB (40 ≤ e ∧ e ≤ 47 ∧ zg Z e.toNat = 0 ∧ zg Z (e.toNat - 8) = -1 ∧ zg Z (e.toNat + 8) = 0)) := hide (by
        rw [Bool.eq_iff_iff, dB_iff, dB_iff]
        unfold Pas
        constructor
        · rintro (h | h | h)
          · exact absurd h hem
          · exact h.2
          · exact absurd h.1 (by decide)
        · intro h
          exact (Or.inr (Or.inl ⟨rfl, h⟩)))
      rw [HPI.out]
      have HOT : Hid (∀ w, Calls Tryz.prog 43 #[.int .i64 0] w fun e w' => e = .returned (.int .i64 1) ∧ w' = w) := hide (other_any 0 (by omega))
      have HPO : Hid (∀ w, Calls Tryz.prog 47 #[.int .i64 1, .int .i64 1] w fun e w' => e = .returned (.int .i64 (-1)) ∧ w' = w) := hide (pieceOf_any 1 1 (by omega))
      clear HPI
      by_cases hr : 40 ≤ e ∧ e ≤ 47
      · obtain ⟨en, rfl⟩ := Int.eq_ofNat_of_zero_le (show 0 ≤ e by omega)
        rw [Int.toNat_natCast]
        obtain ⟨pp, hpp⟩ : ∃ pp, en + 8 = pp := ⟨_, rfl⟩
        obtain ⟨mm, hmm⟩ : ∃ mm, en - 8 = mm := ⟨_, rfl⟩
        rw [hpp, hmm]
        have cp := HZC.out pp (by omega)
        have cm := HZC.out mm (by omega)
        have ce := HZC.out en (by omega)
        have e1 : (en : Int) + 8 = (pp : Int) := by omega
        have e2 : (en : Int) - 8 = (mm : Int) := by omega
        have e3 : (en : Int) + -8 = (mm : Int) := by omega
        have e4 : (en : Int) - -8 = (pp : Int) := by omega
        have hq : (en : Int) / 8 = 5 := by omega
        have hppb : pp < 64 := by omega
        have hmmb : mm < 64 := by omega
        have henb : en < 64 := by omega
        have HDB : Hid (dB (40 ≤ (en : Int) ∧ (en : Int) ≤ 47 ∧ zg Z en = 0 ∧ zg Z mm = -1 ∧ zg Z pp = 0) = (zg Z pp == 0 && zg Z en == 0 && zg Z mm == -1)) := hide (by
          rw [Bool.eq_iff_iff, dB_iff]
          simp only [Bool.and_eq_true, beq_iff_eq]
          exact ⟨fun h => ⟨⟨h.2.2.2.2, h.2.2.1⟩, h.2.2.2.1⟩, fun h => ⟨hr.1, hr.2, h.1.2, h.2, h.1.1⟩⟩)
        rw [HDB.out]
        clear HDB HZC hpp hmm hr HQ5 HQ2 hem he1 he2
        generalize zg Z pp = zp at *
        generalize zg Z mm = zm at *
        generalize zg Z en = ze at *
        by_cases k1 : zp = 0
        · subst k1
          by_cases k2 : ze = 0
          · subst k2
            go_enter Tryz.func41, Tryz.ntmps41
            go_upto_region 1 with fail
            clear hw1
            go_upto_region 8 with (go_at_call 76; refine (HFW.out _).mono ?_; rintro e w5 ⟨rfl, hw⟩; subst w5)
            go_quiet (fail)
            have HB2 : Hid (Below w.heap.size w (w1.drewN nq)) := hide (HB1.out.trans (drewN_below _ _ _))
            have g1' := ((drewN_below w1.heap.size w1 nq).cell (p := ⟨w.heap.size, 1, none⟩) (World.block_lt_of_cell? w1 _ g1)).trans g1
            generalize w1.drewN nq = w2 at *
            go_wp2_with (first | (go_at_call 43; refine (HOT.out _).mono ?_; rintro e w5 ⟨rfl, hw⟩; subst w5) | (go_at_call 47; refine (HPO.out _).mono ?_; rintro e w5 ⟨rfl, hw⟩; subst w5))
            go_ret
            exact ⟨by simp, HB2.out⟩
          · have k2' : (ze == 0) = false := by simp [k2]
            rw [k2', Bool.and_false, Bool.false_and]
            go_enter Tryz.func41, Tryz.ntmps41
            go_upto_region 1 with fail
            clear hw1
            go_upto_region 8 with (go_at_call 76; refine (HFW.out _).mono ?_; rintro e w5 ⟨rfl, hw⟩; subst w5)
            go_quiet (fail)
            have HB2 : Hid (Below w.heap.size w (w1.drewN nq)) := hide (HB1.out.trans (drewN_below _ _ _))
            generalize w1.drewN nq = w2 at *
            go_wp2_with fail
            go_ret
            exact ⟨rfl, HB2.out⟩
        · have k1' : (zp == 0) = false := by simp [k1]
          rw [k1', Bool.false_and, Bool.false_and]
          go_enter Tryz.func41, Tryz.ntmps41
          go_upto_region 1 with fail
          clear hw1
          go_upto_region 8 with (go_at_call 76; refine (HFW.out _).mono ?_; rintro e w5 ⟨rfl, hw⟩; subst w5)
          go_quiet (fail)
          have HB2 : Hid (Below w.heap.size w (w1.drewN nq)) := hide (HB1.out.trans (drewN_below _ _ _))
          generalize w1.drewN nq = w2 at *
          go_wp2_with fail
          go_ret
          exact ⟨rfl, HB2.out⟩
      · rw [show dB (40 ≤ e ∧ e ≤ 47 ∧ zg Z e.toNat = 0 ∧ zg Z (e.toNat - 8) = -1 ∧ zg Z (e.toNat + 8) = 0) = false from dB_f (fun h => hr ⟨h.1, h.2.1⟩)]
        have hq : (e.tdiv 8 != 5) = true := by simp only [bne_iff_ne]; exact fun h => hr (HQ5.out.1 h)
        clear hr HZC HQ5 HQ2
        go_enter Tryz.func41, Tryz.ntmps41
        go_upto_region 1 with fail
        clear hw1
        go_wp2_with (go_at_call 76; refine (HFW.out _).mono ?_; rintro e w5 ⟨rfl, hw⟩; subst w5)
        go_ret
        exact ⟨rfl, HB1.out⟩
  · obtain ⟨w1, hw1⟩ : ∃ w1, w.alloc (.cells (chA a 64 c 1 k e h f) 24) = w1 := ⟨_, rfl⟩
    have B1 : Below w.heap.size w w1 := by rw [← hw1]; exact (Below.refl _ w).alloc (Nat.le_refl _) _
    have HFW : Hid (∀ w, Calls Tryz.prog 76 #[.int .i64 1] w fun e w' => e = .returned (.int .i64 (-8)) ∧ w' = w) := hide (forward_any 1)
    have C1 : Ch w1 w.heap.size a 64 c 1 k e h f := by rw [← hw1]; exact Ch.new w a 64 c 1 k e h f
    have HB1 := hide B1
    have HZ1 := hide (hz.mono B1)
    obtain ⟨g0, g1, g2, g3, g4, g5⟩ := C1.cells
    clear hz B1 C1
    obtain ⟨q5, q2⟩ := quo8 he1 he2
    have HQ5 := hide q5
    have HQ2 := hide q2
    clear q5 q2
    by_cases hem : e = -1
    · rw [show dB (Pas Z 1 e) = true from dB_t (Or.inl hem)]
      subst hem
      go_enter Tryz.func41, Tryz.ntmps41
      go_upto_region 1 with fail
      clear hw1
      go_wp2_with fail
      go_ret
      exact ⟨rfl, HB1.out⟩
    · have hem' : (e == -1) = false := by simp [hem]
      obtain ⟨zb, zo, rfl, hzc⟩ := HZ1.out.cells (by omega)
      have hcm := HZ1.out.max
      unfold maxLen at hcm
      have hcc := HZ1.out.cap
      have HZC : Hid (∀ i, i < 64 → w1.cell? ⟨zb, zo + i, none⟩ = some (.int .i64 (zg Z i))) := hide hzc
      clear hzc HZ1
      have HPI : Hid (dB (Pas Z 1 e) = dB (16 ≤ e ∧ e ≤ 23 ∧ zg Z e.toNat = 0 ∧ zg Z (e.toNat + 8) = 1 ∧ zg Z (e.toNat - 8) = 0)) := hide (by
        rw [Bool.eq_iff_iff, dB_iff, dB_iff]
        unfold Pas
        constructor
        · rintro (h | h | h)
          · exact absurd h hem
          · exact absurd h.1 (by decide)
          · exact h.2
        · intro h
          exact (Or.inr (Or.inr ⟨rfl, h⟩)))
      rw [HPI.out]
      have HOT : Hid (∀ w, Calls Tryz.prog 43 #[.int .i64 1] w fun e w' => e = .returned (.int .i64 0) ∧ w' = w) := hide (other_any 1 (by omega))
      have HPO : Hid (∀ w, Calls Tryz.prog 47 #[.int .i64 0, .int .i64 1] w fun e w' => e = .returned (.int .i64 (1)) ∧ w' = w) := hide (pieceOf_any 0 1 (by omega))
      clear HPI
      by_cases hr : 16 ≤ e ∧ e ≤ 23
      · obtain ⟨en, rfl⟩ := Int.eq_ofNat_of_zero_le (show 0 ≤ e by omega)
        rw [Int.toNat_natCast]
        obtain ⟨pp, hpp⟩ : ∃ pp, en + 8 = pp := ⟨_, rfl⟩
        obtain ⟨mm, hmm⟩ : ∃ mm, en - 8 = mm := ⟨_, rfl⟩
        rw [hpp, hmm]
        have cp := HZC.out pp (by omega)
        have cm := HZC.out mm (by omega)
        have ce := HZC.out en (by omega)
        have e1 : (en : Int) + 8 = (pp : Int) := by omega
        have e2 : (en : Int) - 8 = (mm : Int) := by omega
        have e3 : (en : Int) + -8 = (mm : Int) := by omega
        have e4 : (en : Int) - -8 = (pp : Int) := by omega
        have hq : (en : Int) / 8 = 2 := by omega
        have hppb : pp < 64 := by omega
        have hmmb : mm < 64 := by omega
        have henb : en < 64 := by omega
        have HDB : Hid (dB (16 ≤ (en : Int) ∧ (en : Int) ≤ 23 ∧ zg Z en = 0 ∧ zg Z pp = 1 ∧ zg Z mm = 0) = (zg Z mm == 0 && zg Z en == 0 && zg Z pp == 1)) := hide (by
          rw [Bool.eq_iff_iff, dB_iff]
          simp only [Bool.and_eq_true, beq_iff_eq]
          exact ⟨fun h => ⟨⟨h.2.2.2.2, h.2.2.1⟩, h.2.2.2.1⟩, fun h => ⟨hr.1, hr.2, h.1.2, h.2, h.1.1⟩⟩)
        rw [HDB.out]
        clear HDB HZC hpp hmm hr HQ5 HQ2 hem he1 he2
        generalize zg Z pp = zp at *
        generalize zg Z mm = zm at *
        generalize zg Z en = ze at *
        by_cases k1 : zm = 0
        · subst k1
          by_cases k2 : ze = 0
          · subst k2
            go_enter Tryz.func41, Tryz.ntmps41
            go_upto_region 1 with fail
            clear hw1
            go_upto_region 8 with (go_at_call 76; refine (HFW.out _).mono ?_; rintro e w5 ⟨rfl, hw⟩; subst w5)
            go_quiet (fail)
            have HB2 : Hid (Below w.heap.size w (w1.drewN nq)) := hide (HB1.out.trans (drewN_below _ _ _))
            have g1' := ((drewN_below w1.heap.size w1 nq).cell (p := ⟨w.heap.size, 1, none⟩) (World.block_lt_of_cell? w1 _ g1)).trans g1
            generalize w1.drewN nq = w2 at *
            go_wp2_with (first | (go_at_call 43; refine (HOT.out _).mono ?_; rintro e w5 ⟨rfl, hw⟩; subst w5) | (go_at_call 47; refine (HPO.out _).mono ?_; rintro e w5 ⟨rfl, hw⟩; subst w5))
            go_ret
            exact ⟨by simp, HB2.out⟩
          · have k2' : (ze == 0) = false := by simp [k2]
            rw [k2', Bool.and_false, Bool.false_and]
            go_enter Tryz.func41, Tryz.ntmps41
            go_upto_region 1 with fail
            clear hw1
            go_upto_region 8 with (go_at_call 76; refine (HFW.out _).mono ?_; rintro e w5 ⟨rfl, hw⟩; subst w5)
            go_quiet (fail)
            have HB2 : Hid (Below w.heap.size w (w1.drewN nq)) := hide (HB1.out.trans (drewN_below _ _ _))
            generalize w1.drewN nq = w2 at *
            go_wp2_with fail
            go_ret
            exact ⟨rfl, HB2.out⟩
        · have k1' : (zm == 0) = false := by simp [k1]
          rw [k1', Bool.false_and, Bool.false_and]
          go_enter Tryz.func41, Tryz.ntmps41
          go_upto_region 1 with fail
          clear hw1
          go_upto_region 8 with (go_at_call 76; refine (HFW.out _).mono ?_; rintro e w5 ⟨rfl, hw⟩; subst w5)
          go_quiet (fail)
          have HB2 : Hid (Below w.heap.size w (w1.drewN nq)) := hide (HB1.out.trans (drewN_below _ _ _))
          generalize w1.drewN nq = w2 at *
          go_wp2_with fail
          go_ret
          exact ⟨rfl, HB2.out⟩
      · rw [show dB (16 ≤ e ∧ e ≤ 23 ∧ zg Z e.toNat = 0 ∧ zg Z (e.toNat + 8) = 1 ∧ zg Z (e.toNat - 8) = 0) = false from dB_f (fun h => hr ⟨h.1, h.2.1⟩)]
        have hq : (e.tdiv 8 != 2) = true := by simp only [bne_iff_ne]; exact fun h => hr (HQ2.out.1 h)
        clear hr HZC HQ5 HQ2
        go_enter Tryz.func41, Tryz.ntmps41
        go_upto_region 1 with fail
        clear hw1
        go_wp2_with (go_at_call 76; refine (HFW.out _).mono ?_; rintro e w5 ⟨rfl, hw⟩; subst w5)
        go_ret
        exact ⟨rfl, HB1.out⟩

end Go.Proofs.YtdmlamnonbmboaaGreatDoor

namespace Go.Proofs.YtdmlamnonbmboaaGreatDoor
open Go.RowKit

/-- The table of worths. -/
def wT : List Int := [0, 1, 3, 3, 5, 9, 0]
def wo (j : Nat) : Int := wT.getD j 0
def wv (x : Int) : Int := sg x * wo x.natAbs
def mS (Z : List Int) : Nat → Int
  | 0 => 0
  | n + 1 => mS Z n + wv (zg Z n)

theorem mS_zero (Z : List Int) : mS Z 0 = 0 := rfl
theorem mS_succ (Z : List Int) (n : Nat) : mS Z (n + 1) = mS Z n + wv (zg Z n) := rfl

theorem wo_bd {j : Nat} (hj : j ≤ 6) : 0 ≤ wo j ∧ wo j ≤ 9 := by
  have : j = 0 ∨ j = 1 ∨ j = 2 ∨ j = 3 ∨ j = 4 ∨ j = 5 ∨ j = 6 := by omega
  rcases this with rfl | rfl | rfl | rfl | rfl | rfl | rfl <;> decide
theorem wv_pos {x : Int} (h : 0 < x) : wv x = wo x.natAbs := by unfold wv sg; rw [if_pos h, Int.one_mul]
theorem wv_neg {x : Int} (h : ¬ 0 < x) : wv x = -(wo x.natAbs) := by
  unfold wv sg
  rw [if_neg h]
  by_cases h2 : x < 0
  · rw [if_pos h2]; omega
  · have : x = 0 := by omega
    subst this; decide
theorem wv_bd {x : Int} (h1 : -6 ≤ x) (h2 : x ≤ 6) : -9 ≤ wv x ∧ wv x ≤ 9 := by
  have := wo_bd (j := x.natAbs) (by omega)
  by_cases h : 0 < x
  · rw [wv_pos h]; omega
  · rw [wv_neg h]; omega
theorem mS_bd {Z : List Int} (hz : Pz Z) (n : Nat) : -(9 * (n : Int)) ≤ mS Z n ∧ mS Z n ≤ 9 * (n : Int) := by
  induction n with
  | zero => simp [mS]
  | succ n ih =>
    have := wv_bd (hz.2 n).1 (hz.2 n).2
    simp only [mS]
    omega

def TabW (w : World) : Prop := ∀ i, i < 7 → w.cell? ⟨0, i, none⟩ = some (.int .i64 (wo i))
theorem TabW.lt {w : World} (h : TabW w) : 0 < w.heap.size := World.block_lt_of_cell? w _ (h 0 (by omega))
theorem TabW.mono {w w' : World} (h : TabW w) (hb : Below w.heap.size w w') : TabW w' := fun i hi => (hb.cell (p := ⟨0, i, none⟩) h.lt).trans (h i hi)

/-- How many places a question is answered yes. -/
def nu (p : Nat → Bool) (n : Nat) : Nat := ((List.range n).filter p).length
theorem nu_zero (p : Nat → Bool) : nu p 0 = 0 := rfl
theorem nu_succ (p : Nat → Bool) (n : Nat) : nu p (n + 1) = nu p n + (if p n = true then 1 else 0) := by
  unfold nu
  rw [List.range_succ, List.filter_append, List.length_append]
  by_cases h : p n = true <;> simp [h]
theorem nu_le (p : Nat → Bool) (n : Nat) : nu p n ≤ n := Nat.le_trans (List.length_filter_le _ _) (by simp)

def kc (Z : List Int) (j n : Nat) : Nat := nu (fun i => (zg Z i).natAbs == j) n
def shc (Z : List Int) (q n : Nat) : Nat := nu (fun i => (zg Z i).natAbs == 3 && (i / 8 + i % 8) % 2 == q) n
theorem kc_succ (Z : List Int) (j n : Nat) : kc Z j (n + 1) = kc Z j n + (if (zg Z n).natAbs = j then 1 else 0) := by
  unfold kc; rw [nu_succ]; simp
theorem shc_succ (Z : List Int) (q n : Nat) : shc Z q (n + 1) = shc Z q n + (if (zg Z n).natAbs = 3 ∧ (n / 8 + n % 8) % 2 = q then 1 else 0) := by
  unfold shc; rw [nu_succ]; simp
theorem kc_le (Z : List Int) (j n : Nat) : kc Z j n ≤ n := nu_le _ n
theorem shc_le (Z : List Int) (q n : Nat) : shc Z q n ≤ n := nu_le _ n

/-- Neither can ever give mate. -/
def tl (Z : List Int) : Bool := decide (kc Z 1 64 + kc Z 4 64 + kc Z 5 64 = 0) && (decide (kc Z 2 64 + kc Z 3 64 ≤ 1) || (decide (kc Z 2 64 = 0) && (decide (shc Z 1 64 = 0) || decide (shc Z 0 64 = 0))))

def kdL (Z : List Int) (n : Nat) : List Int := (List.range 7).map fun j : Nat => ((kc Z j n : Nat) : Int)
theorem kdL_len (Z : List Int) (n : Nat) : (kdL Z n).length = 7 := by simp [kdL]
theorem kdL_at (Z : List Int) (n : Nat) {j : Nat} (hj : j < 7) : (kdL Z n).getD j 0 = ((kc Z j n : Nat) : Int) := by
  simp [kdL, List.getD, hj]
theorem kdL_g (Z : List Int) (n : Nat) {j : Nat} (hj : j < 7) : (kdL Z n)[j]? = some ((kc Z j n : Nat) : Int) := by
  simp [kdL, hj]
theorem kdL_zero (Z : List Int) : kdL Z 0 = List.replicate 7 0 := by
  simp [kdL, kc, nu_zero, List.range_succ]
theorem kdL_succ {Z : List Int} {n x : Nat} (hx : (zg Z n).natAbs = x) : (kdL Z n).set x ((kdL Z n).getD x 0 + 1) = kdL Z (n + 1) := by
  apply List.ext_getElem?
  intro j
  by_cases hj : j < 7
  · rw [kdL_g Z (n + 1) hj, kc_succ]
    by_cases e : x = j
    · subst e
      rw [List.getElem?_set_self (by rw [kdL_len]; exact hj), kdL_at Z n hj, if_pos hx]
      rfl
    · rw [List.getElem?_set_ne e, kdL_g Z n hj, if_neg (by omega)]
      rfl
  · rw [List.getElem?_eq_none (by rw [List.length_set, kdL_len]; omega), List.getElem?_eq_none (by rw [kdL_len]; omega)]

def shL (Z : List Int) (n : Nat) : List Int := [((shc Z 0 n : Nat) : Int), ((shc Z 1 n : Nat) : Int)]
theorem shL_no {Z : List Int} {n : Nat} (h : (zg Z n).natAbs ≠ 3) : shL Z (n + 1) = shL Z n := by
  unfold shL; rw [shc_succ, shc_succ, if_neg (fun e => h e.1), if_neg (fun e => h e.1)]; rfl
theorem shL_yes {Z : List Int} {n q : Nat} (h : (zg Z n).natAbs = 3) (hq : (n / 8 + n % 8) % 2 = q) (hq2 : q < 2) : (shL Z n).set q ((shL Z n).getD q 0 + 1) = shL Z (n + 1) := by
  have : q = 0 ∨ q = 1 := by omega
  unfold shL
  rcases this with rfl | rfl
  · rw [shc_succ, shc_succ, if_pos ⟨h, hq⟩, if_neg (fun e => by omega)]; rfl
  · rw [shc_succ, shc_succ, if_neg (fun e => by omega), if_pos ⟨h, hq⟩]; rfl
theorem shL_0 (Z : List Int) (n : Nat) : (shL Z n).getD 0 0 = ((shc Z 0 n : Nat) : Int) := rfl
theorem shL_1 (Z : List Int) (n : Nat) : (shL Z n).getD 1 0 = ((shc Z 1 n : Nat) : Int) := rfl
theorem shL_len (Z : List Int) (n : Nat) : (shL Z n).length = 2 := rfl
theorem shL_zero (Z : List Int) : shL Z 0 = [0, 0] := rfl

end Go.Proofs.YtdmlamnonbmboaaGreatDoor
