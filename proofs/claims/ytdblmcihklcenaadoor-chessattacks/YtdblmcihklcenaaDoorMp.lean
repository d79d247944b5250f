/-
  Chess: may a pawn just have gone over a place: mayPass, walked. No conditions beyond those that each theorem bears.
-/
import Derived.Test.YtdblmcihklcenaaDoorMc0
namespace Go.Proofs.YtdblmcihklcenaaDoor
open Go.RowKit Go.Shelf

theorem quo8 {e : Int} (h1 : -9223372036854775808 ≤ e) (h2 : e ≤ 9223372036854775807) : (e.tdiv 8 = 5 ↔ 40 ≤ e ∧ e ≤ 47) ∧ (e.tdiv 8 = 2 ↔ 16 ≤ e ∧ e ≤ 23) := by
  by_cases h : 0 ≤ e
  · rw [Int.tdiv_eq_ediv_of_nonneg h]; omega
  · have hn : e.tdiv 8 ≤ 0 := by
      have := Int.tdiv_eq_ediv_of_nonneg (a := -e) (b := 8) (by omega)
      rw [Int.neg_tdiv] at this
      omega
    omega

set_option maxRecDepth 100000 in
set_option maxHeartbeats 4000000 in
theorem mayPass_any (a : Option Addr) (c : Nat) (Z : List Int) (t : Int) (ht : t = 0 ∨ t = 1) (k e h f : Int) (he1 : -9223372036854775808 ≤ e) (he2 : e ≤ 9223372036854775807) (w : World) (hz : Rd w a 64 c Z) :
    Calls Tryd.prog 29 #[.agg (chA a 64 c t k e h f)] w fun r w' => r = .returned (.bool (dB (Pas Z t e))) ∧ Below w.heap.size w w' := by
  rcases ht with rfl | rfl
  · obtain ⟨w1, hw1⟩ : ∃ w1, w.alloc (.cells (chA a 64 c 0 k e h f) 24) = w1 := ⟨_, rfl⟩
    have B1 : Below w.heap.size w w1 := by rw [← hw1]; exact (Below.refl _ w).alloc (Nat.le_refl _) _
    have C1 : Ch w1 w.heap.size a 64 c 0 k e h f := by rw [← hw1]; exact Ch.new w a 64 c 0 k e h f
    have HB1 := hide B1
    have HZ1 := hide (hz.mono B1)
    obtain ⟨g0, g1, g2, g3, g4, g5⟩ := C1.cells
    clear hz B1 C1
    obtain ⟨q5, q2⟩ := quo8 he1 he2
    have HQ5 := hide q5
    have HQ2 := hide q2
    clear q5 q2
    by_cases hem : e = -1
    · rw [show dB (Pas Z 0 e) = true from dB_t (Or.inl hem)]
      subst hem
      go_enter Tryd.func29, Tryd.ntmps29
      go_upto_region 1 with fail
      clear hw1
      go_wp2_with fail
      go_ret
      exact ⟨rfl, HB1.out⟩
    · have hem' : (e == -1) = false := by simp [hem]
      obtain ⟨zb, zo, rfl, hzc⟩ := HZ1.out.cells (by omega)
      have hcm := HZ1.out.max
      unfold maxLen at hcm
      have hcc := HZ1.out.cap
      have HZC : Hid (∀ i, i < 64 → w1.cell? ⟨zb, zo + i, none⟩ = some (.int .i64 (zg Z i))) := hide hzc
      clear hzc HZ1
      have HPI : Hid (dB (Pas Z 0 e) = dB (40 ≤ e ∧ e ≤ 47 ∧ zg Z e.toNat = 0 ∧ zg Z (e.toNat - 8) = -1 ∧ zg Z (e.toNat + 8) = 0)) := hide (by
        rw [Bool.eq_iff_iff, dB_iff, dB_iff]
        unfold Pas
        constructor
        · rintro (h | h | h)
          · exact absurd h hem
          · exact h.2
          · exact absurd h.1 (by decide)
        · intro h
          exact (Or.inr (Or.inl ⟨rfl, h⟩)))
      rw [HPI.out]
      have HOT : Hid (∀ w, Calls Tryd.prog 30 #[.int .i64 0] w fun e w' => e = .returned (.int .i64 1) ∧ w' = w) := hide (other_any 0 (by omega))
      have HPO : Hid (∀ w, Calls Tryd.prog 35 #[.int .i64 1, .int .i64 1] w fun e w' => e = .returned (.int .i64 (-1)) ∧ w' = w) := hide (pieceOf_any 1 1 (by omega))
      clear HPI
      by_cases hr : 40 ≤ e ∧ e ≤ 47
      · obtain ⟨en, rfl⟩ := Int.eq_ofNat_of_zero_le (show 0 ≤ e by omega)
        rw [Int.toNat_natCast]
        obtain ⟨pp, hpp⟩ : ∃ pp, en + 8 = pp := ⟨_, rfl⟩
        obtain ⟨mm, hmm⟩ : ∃ mm, en - 8 = mm := ⟨_, rfl⟩
        rw [hpp, hmm]
        have cp := HZC.out pp (by omega)
        have cm := HZC.out mm (by omega)
        have ce := HZC.out en (by omega)
        have e1 : (en : Int) + 8 = (pp : Int) := by omega
        have e2 : (en : Int) - 8 = (mm : Int) := by omega
        have e3 : (en : Int) + -8 = (mm : Int) := by omega
        have e4 : (en : Int) - -8 = (pp : Int) := by omega
        have hq : (en : Int) / 8 = 5 := by omega
        have hppb : pp < 64 := by omega
        have hmmb : mm < 64 := by omega
        have henb : en < 64 := by omega
        have HDB : Hid (dB (40 ≤ (en : Int) ∧ (en : Int) ≤ 47 ∧ zg Z en = 0 ∧ zg Z mm = -1 ∧ zg Z pp = 0) = (zg Z pp == 0 && zg Z en == 0 && zg Z mm == -1)) := hide (by
          rw [Bool.eq_iff_iff, dB_iff]
          simp only [Bool.and_eq_true, beq_iff_eq]
          exact ⟨fun h => ⟨⟨h.2.2.2.2, h.2.2.1⟩, h.2.2.2.1⟩, fun h => ⟨hr.1, hr.2, h.1.2, h.2, h.1.1⟩⟩)
        rw [HDB.out]
        clear HDB HZC hpp hmm hr HQ5 HQ2 hem he1 he2
        generalize zg Z pp = zp at *
        generalize zg Z mm = zm at *
        generalize zg Z en = ze at *
        by_cases k1 : zp = 0
        · subst k1
          by_cases k2 : ze = 0
          · subst k2
            go_enter Tryd.func29, Tryd.ntmps29
            go_upto_region 1 with fail
            clear hw1
            go_upto_region 8 with fail
            go_quiet (fail)
            have HB2 : Hid (Below w.heap.size w (w1.drewN nq)) := hide (HB1.out.trans (drewN_below _ _ _))
            have g1' := ((drewN_below w1.heap.size w1 nq).cell (p := ⟨w.heap.size, 1, none⟩) (World.block_lt_of_cell? w1 _ g1)).trans g1
            generalize w1.drewN nq = w2 at *
            go_wp2_with (first | (go_at_call 30; refine (HOT.out _).mono ?_; rintro e w5 ⟨rfl, hw⟩; subst w5) | (go_at_call 35; refine (HPO.out _).mono ?_; rintro e w5 ⟨rfl, hw⟩; subst w5))
            go_ret
            exact ⟨by simp, HB2.out⟩
          · have k2' : (ze == 0) = false := by simp [k2]
            rw [k2', Bool.and_false, Bool.false_and]
            go_enter Tryd.func29, Tryd.ntmps29
            go_upto_region 1 with fail
            clear hw1
            go_upto_region 8 with fail
            go_quiet (fail)
            have HB2 : Hid (Below w.heap.size w (w1.drewN nq)) := hide (HB1.out.trans (drewN_below _ _ _))
            generalize w1.drewN nq = w2 at *
            go_wp2_with fail
            go_ret
            exact ⟨rfl, HB2.out⟩
        · have k1' : (zp == 0) = false := by simp [k1]
          rw [k1', Bool.false_and, Bool.false_and]
          go_enter Tryd.func29, Tryd.ntmps29
          go_upto_region 1 with fail
          clear hw1
          go_upto_region 8 with fail
          go_quiet (fail)
          have HB2 : Hid (Below w.heap.size w (w1.drewN nq)) := hide (HB1.out.trans (drewN_below _ _ _))
          generalize w1.drewN nq = w2 at *
          go_wp2_with fail
          go_ret
          exact ⟨rfl, HB2.out⟩
      · rw [show dB (40 ≤ e ∧ e ≤ 47 ∧ zg Z e.toNat = 0 ∧ zg Z (e.toNat - 8) = -1 ∧ zg Z (e.toNat + 8) = 0) = false from dB_f (fun h => hr ⟨h.1, h.2.1⟩)]
        have hq : (e.tdiv 8 != 5) = true := by simp only [bne_iff_ne]; exact fun h => hr (HQ5.out.1 h)
        clear hr HZC HQ5 HQ2
        go_enter Tryd.func29, Tryd.ntmps29
        go_upto_region 1 with fail
        clear hw1
        go_wp2_with fail
        go_ret
        exact ⟨rfl, HB1.out⟩
  · obtain ⟨w1, hw1⟩ : ∃ w1, w.alloc (.cells (chA a 64 c 1 k e h f) 24) = w1 := ⟨_, rfl⟩
    have B1 : Below w.heap.size w w1 := by rw [← hw1]; exact (Below.refl _ w).alloc (Nat.le_refl _) _
    have C1 : Ch w1 w.heap.size a 64 c 1 k e h f := by rw [← hw1]; exact Ch.new w a 64 c 1 k e h f
    have HB1 := hide B1
    have HZ1 := hide (hz.mono B1)
    obtain ⟨g0, g1, g2, g3, g4, g5⟩ := C1.cells
    clear hz B1 C1
    obtain ⟨q5, q2⟩ := quo8 he1 he2
    have HQ5 := hide q5
    have HQ2 := hide q2
    clear q5 q2
    by_cases hem : e = -1
    · rw [show dB (Pas Z 1 e) = true from dB_t (Or.inl hem)]
      subst hem
      go_enter Tryd.func29, Tryd.ntmps29
      go_upto_region 1 with fail
      clear hw1
      go_wp2_with fail
      go_ret
      exact ⟨rfl, HB1.out⟩
    · have hem' : (e == -1) = false := by simp [hem]
      obtain ⟨zb, zo, rfl, hzc⟩ := HZ1.out.cells (by omega)
      have hcm := HZ1.out.max
      unfold maxLen at hcm
      have hcc := HZ1.out.cap
      have HZC : Hid (∀ i, i < 64 → w1.cell? ⟨zb, zo + i, none⟩ = some (.int .i64 (zg Z i))) := hide hzc
      clear hzc HZ1
      have HPI : Hid (dB (Pas Z 1 e) = dB (16 ≤ e ∧ e ≤ 23 ∧ zg Z e.toNat = 0 ∧ zg Z (e.toNat + 8) = 1 ∧ zg Z (e.toNat - 8) = 0)) := hide (by
        rw [Bool.eq_iff_iff, dB_iff, dB_iff]
        unfold Pas
        constructor
        · rintro (h | h | h)
          · exact absurd h hem
          · exact absurd h.1 (by decide)
          · exact h.2
        · intro h
          exact (Or.inr (Or.inr ⟨rfl, h⟩)))
      rw [HPI.out]
      have HOT : Hid (∀ w, Calls Tryd.prog 30 #[.int .i64 1] w fun e w' => e = .returned (.int .i64 0) ∧ w' = w) := hide (other_any 1 (by omega))
      have HPO : Hid (∀ w, Calls Tryd.prog 35 #[.int .i64 0, .int .i64 1] w fun e w' => e = .returned (.int .i64 (1)) ∧ w' = w) := hide (pieceOf_any 0 1 (by omega))
      clear HPI
      by_cases hr : 16 ≤ e ∧ e ≤ 23
      · obtain ⟨en, rfl⟩ := Int.eq_ofNat_of_zero_le (show 0 ≤ e by omega)
        rw [Int.toNat_natCast]
        obtain ⟨pp, hpp⟩ : ∃ pp, en + 8 = pp := ⟨_, rfl⟩
        obtain ⟨mm, hmm⟩ : ∃ mm, en - 8 = mm := ⟨_, rfl⟩
        rw [hpp, hmm]
        have cp := HZC.out pp (by omega)
        have cm := HZC.out mm (by omega)
        have ce := HZC.out en (by omega)
        have e1 : (en : Int) + 8 = (pp : Int) := by omega
        have e2 : (en : Int) - 8 = (mm : Int) := by omega
        have e3 : (en : Int) + -8 = (mm : Int) := by omega
        have e4 : (en : Int) - -8 = (pp : Int) := by omega
        have hq : (en : Int) / 8 = 2 := by omega
        have hppb : pp < 64 := by omega
        have hmmb : mm < 64 := by omega
        have henb : en < 64 := by omega
        have HDB : Hid (dB (16 ≤ (en : Int) ∧ (en : Int) ≤ 23 ∧ zg Z en = 0 ∧ zg Z pp = 1 ∧ zg Z mm = 0) = (zg Z mm == 0 && zg Z en == 0 && zg Z pp == 1)) := hide (by
          rw [Bool.eq_iff_iff, dB_iff]
          simp only [Bool.and_eq_true, beq_iff_eq]
          exact ⟨fun h => ⟨⟨h.2.2.2.2, h.2.2.1⟩, h.2.2.2.1⟩, fun h => ⟨hr.1, hr.2, h.1.2, h.2, h.1.1⟩⟩)
        rw [HDB.out]
        clear HDB HZC hpp hmm hr HQ5 HQ2 hem he1 he2
        generalize zg Z pp = zp at *
        generalize zg Z mm = zm at *
        generalize zg Z en = ze at *
        by_cases k1 : zm = 0
        · subst k1
          by_cases k2 : ze = 0
          · subst k2
            go_enter Tryd.func29, Tryd.ntmps29
            go_upto_region 1 with fail
            clear hw1
            go_upto_region 8 with fail
            go_quiet (fail)
            have HB2 : Hid (Below w.heap.size w (w1.drewN nq)) := hide (HB1.out.trans (drewN_below _ _ _))
            have g1' := ((drewN_below w1.heap.size w1 nq).cell (p := ⟨w.heap.size, 1, none⟩) (World.block_lt_of_cell? w1 _ g1)).trans g1
            generalize w1.drewN nq = w2 at *
            go_wp2_with (first | (go_at_call 30; refine (HOT.out _).mono ?_; rintro e w5 ⟨rfl, hw⟩; subst w5) | (go_at_call 35; refine (HPO.out _).mono ?_; rintro e w5 ⟨rfl, hw⟩; subst w5))
            go_ret
            exact ⟨by simp, HB2.out⟩
          · have k2' : (ze == 0) = false := by simp [k2]
            rw [k2', Bool.and_false, Bool.false_and]
            go_enter Tryd.func29, Tryd.ntmps29
            go_upto_region 1 with fail
            clear hw1
            go_upto_region 8 with fail
            go_quiet (fail)
            have HB2 : Hid (Below w.heap.size w (w1.drewN nq)) := hide (HB1.out.trans (drewN_below _ _ _))
            generalize w1.drewN nq = w2 at *
            go_wp2_with fail
            go_ret
            exact ⟨rfl, HB2.out⟩
        · have k1' : (zm == 0) = false := by simp [k1]
          rw [k1', Bool.false_and, Bool.false_and]
          go_enter Tryd.func29, Tryd.ntmps29
          go_upto_region 1 with fail
          clear hw1
          go_upto_region 8 with fail
          go_quiet (fail)
          have HB2 : Hid (Below w.heap.size w (w1.drewN nq)) := hide (HB1.out.trans (drewN_below _ _ _))
          generalize w1.drewN nq = w2 at *
          go_wp2_with fail
          go_ret
          exact ⟨rfl, HB2.out⟩
      · rw [show dB (16 ≤ e ∧ e ≤ 23 ∧ zg Z e.toNat = 0 ∧ zg Z (e.toNat + 8) = 1 ∧ zg Z (e.toNat - 8) = 0) = false from dB_f (fun h => hr ⟨h.1, h.2.1⟩)]
        have hq : (e.tdiv 8 != 2) = true := by simp only [bne_iff_ne]; exact fun h => hr (HQ2.out.1 h)
        clear hr HZC HQ5 HQ2
        go_enter Tryd.func29, Tryd.ntmps29
        go_upto_region 1 with fail
        clear hw1
        go_wp2_with fail
        go_ret
        exact ⟨rfl, HB1.out⟩

end Go.Proofs.YtdblmcihklcenaaDoor
