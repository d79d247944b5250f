/-
  Chess: the document's attack, walked. No conditions beyond those that each theorem bears.
-/
import Derived.Test.YtdmlamnonbmboaaDoorQ08
namespace Go.Proofs.YtdmlamnonbmboaaDoor
open Go.RowKit Go.Shelf

/-- A number's size. -/
def nab (x : Int) : Nat := x.natAbs

theorem nab_any (x : Int) (h1 : -1000 ≤ x) (h2 : x ≤ 1000) (w : World) : Calls Tryd.prog 25 #[.int .i64 x] w fun e w' => e = .returned (.int .i64 (nab x : Nat)) ∧ w' = w := size_any x h1 h2 w
theorem nab_le {x : Int} {n : Nat} (h1 : -(n : Int) ≤ x) (h2 : x ≤ n) : nab x ≤ n := by unfold nab; omega
theorem nab_zero {x : Int} : x = 0 ↔ nab x = 0 := by unfold nab; omega
theorem slant_eq (f t : Nat) : slant f t = (nab (dX f t) == nab (dY f t)) := rfl
theorem atR_eq (Z : List Int) (f t : Nat) : atR Z f t = if dX f t = 0 ∧ dY f t = 0 then false
      else if nab (zg Z f) = 1 then nab (dX f t) == 1 && dY f t == zg Z f
      else if nab (zg Z f) = 2 then nab (dX f t * dY f t) == 2
      else if nab (zg Z f) = 6 then decide (nab (dX f t) ≤ 1) && decide (nab (dY f t) ≤ 1)
      else if zg Z f = 0 ∨ (slant f t = false ∧ strai f t = false) ∨ (nab (zg Z f) = 3 ∧ slant f t = false) ∨ (nab (zg Z f) = 4 ∧ strai f t = false) then false
      else (btw f t).all fun k => zg Z k == 0 := rfl

attribute [local irreducible] bt btw mD jz sg nab

set_option maxRecDepth 100000 in
set_option maxHeartbeats 16000000 in
theorem Attacks_any (a : Option Addr) (c : Nat) (Z : List Int) (f t : Nat) (hf : f < 64) (ht : t < 64) (hzb : -6 ≤ zg Z f ∧ zg Z f ≤ 6) (w : World) (h : Rd w a 64 c Z) :
    Calls Tryd.prog 55 #[.slice a 64 c, .int .i64 f, .int .i64 t] w fun e w' => e = .returned (.bool (atR Z f t)) ∧ w' = w := by
  have hcm := h.max
  unfold maxLen at hcm
  have hcc := h.cap
  obtain ⟨b, off, rfl, hc⟩ := h.cells (by omega)
  have HC : Hid (∀ i, i < 64 → w.cell? ⟨b, off + i, none⟩ = some (.int .i64 (zg Z i))) := hide hc
  have cz := HC.out f hf
  clear h hc
  have HSZ := hide nab_any
  have HSG := hide signOf_any
  have HAR := hide (atR_eq Z f t)
  have hdb := dXY_bd hf ht
  have hmb := mul_bd ⟨hdb.1, hdb.2.1⟩ ⟨hdb.2.2.1, hdb.2.2.2⟩
  have HMD : Hid (¬ (dX f t = 0 ∧ dY f t = 0) → (slant f t || strai f t) = true → 1 ≤ mD f t ∧ mD f t ≤ 7 ∧ ∀ j, j < mD f t → bt f t j < 64 ∧ (bt f t j = t ↔ j + 1 = mD f t) ∧ jz f t (bt f t j) = j) := hide (fun h1 h2 => by
    obtain ⟨x1, x2, x3⟩ := mD_bd hf ht h1 h2
    exact ⟨x1, x2, fun j hj => (x3 j hj).2⟩)
  have HBS : Hid (¬ (dX f t = 0 ∧ dY f t = 0) → (slant f t || strai f t) = true → (f : Int) + (sg (dX f t) + 8 * sg (dY f t)) = ((bt f t 0 : Nat) : Int) ∧ ∀ j, j + 1 < mD f t → ((bt f t j : Nat) : Int) + (sg (dX f t) + 8 * sg (dY f t)) = ((bt f t (j + 1) : Nat) : Int)) := hide (fun h1 h2 => ⟨bt_zero hf ht h1 h2, fun j hj => bt_succ hf ht h1 h2 hj⟩)
  have HSL : Hid (slant f t = (nab (dX f t) == nab (dY f t)) ∧ strai f t = (dX f t == 0 || dY f t == 0)) := hide ⟨slant_eq f t, rfl⟩
  have HNZ := hide (fun x : Int => nab_zero (x := x))
  have e1 : (t : Int) % 8 - (f : Int) % 8 = dX f t := by unfold dX; omega
  have e2 : (t : Int) / 8 - (f : Int) / 8 = dY f t := by unfold dY; omega
  obtain ⟨rr, hrr⟩ : ∃ rr, atR Z f t = rr := ⟨_, rfl⟩
  rw [hrr] at HAR ⊢
  have HRR := hide HAR.out.symm
  clear hrr HAR
  obtain ⟨sl, hsl⟩ : ∃ sl, slant f t = sl := ⟨_, rfl⟩
  obtain ⟨st, hst⟩ : ∃ st, strai f t = st := ⟨_, rfl⟩
  rw [hsl, hst] at HMD HBS HSL HRR
  clear hsl hst
  generalize dX f t = dx at *
  generalize dY f t = dy at *
  obtain ⟨p, hp⟩ : ∃ p, dx * dy = p := ⟨_, rfl⟩
  rw [hp] at hmb HRR
  have HP := hide hp
  clear hp
  obtain ⟨x, hx⟩ : ∃ x, zg Z f = x := ⟨_, rfl⟩
  rw [hx] at cz hzb HRR
  clear hx
  go_enter Tryd.func55, Tryd.ntmps55
  go_upto_region 3 with fail
  clear cz e1 e2
  by_cases h0 : dx = 0
  · by_cases h1 : dy = 0
    · rw [if_pos ⟨h0, h1⟩] at HRR
      subst h0 h1
      clear HP HMD HBS HSL
      go_wp2_with fail
      go_ret
      exact ⟨by rw [← HRR.out]; rfl, rfl⟩
    · have hne : ¬ (dx = 0 ∧ dy = 0) := fun h => h1 h.2
      have b0 : (dx == 0) = true := by simp [h0]
      have b1 : (dy == 0) = false := by simp [h1]
      rw [if_neg hne] at HRR
      obtain rfl : sl = false := by
        rw [HSL.out.1]; simp only [beq_eq_false_iff_ne]; intro h
        have z1 := HNZ.out dx; have z2 := HNZ.out dy; omega
      obtain rfl : st = true := by rw [HSL.out.2]; simp [h0]
      have z0 : nab dx = 0 := (HNZ.out dx).1 h0
      have z1 : ¬ nab dy = 0 := fun e => h1 ((HNZ.out dy).2 e)
      have H2 : ¬ nab dx = nab dy := by omega
      clear h0 z0 z1
      clear HSL
      have hk6 : nab x ≤ 6 := nab_le (by omega) (by omega)
      have hk : nab x = 0 ∨ nab x = 1 ∨ nab x = 2 ∨ nab x = 3 ∨ nab x = 4 ∨ nab x = 5 ∨ nab x = 6 := by omega
      have hsd : nab dx ≤ 7 := nab_le (by omega) (by omega)
      have hse : nab dy ≤ 7 := nab_le (by omega) (by omega)
      have hx0 : x = 0 ↔ nab x = 0 := HNZ.out x
      have h2 := H2
      have hse2 : (((nab dx : Nat) : Int) == ((nab dy : Nat) : Int)) = false := by simp; omega
      clear HNZ hk6
      obtain ⟨s1, hs1⟩ : ∃ s1, nab dx = s1 := ⟨_, rfl⟩
      obtain ⟨s2, hs2⟩ : ∃ s2, nab dy = s2 := ⟨_, rfl⟩
      obtain ⟨xa, hxa⟩ : ∃ xa, nab x = xa := ⟨_, rfl⟩
      rw [hs1] at hsd HRR hse2
      rw [hs2] at hse HRR hse2
      rw [hxa] at hk hx0 HRR
      rcases hk with rfl | rfl | rfl | rfl | rfl | rfl | rfl
      · have hx1 : x = 0 := hx0.2 rfl
        subst hx1
        rw [if_neg (by decide), if_neg (by decide), if_neg (by decide), if_pos (Or.inl rfl)] at HRR
        clear hx0 HP HMD HBS
        go_wp2_with (go_at_call 25; refine (HSZ.out _ (by omega) (by omega) _).mono ?_; rintro e w5 ⟨rfl, hw⟩; subst w5)
        go_ret
        exact ⟨by rw [← HRR.out]; rfl, rfl⟩
      · rw [if_pos rfl] at HRR
        by_cases q1 : s1 = 1
        · subst q1
          rw [show ((1 : Nat) == 1) = true by rfl, Bool.true_and] at HRR
          clear hx0 HP HMD HBS
          go_wp2_with (go_at_call 25; refine (HSZ.out _ (by omega) (by omega) _).mono ?_; rintro e w5 ⟨rfl, hw⟩; subst w5)
          go_ret
          exact ⟨by rw [← HRR.out]; rfl, rfl⟩
        · have q2 : ((s1 : Int) == 1) = false := by simp; omega
          rw [show (s1 == 1) = false by simp [q1], Bool.false_and] at HRR
          clear hx0 HP HMD HBS
          go_wp2_with (go_at_call 25; refine (HSZ.out _ (by omega) (by omega) _).mono ?_; rintro e w5 ⟨rfl, hw⟩; subst w5)
          go_ret
          exact ⟨by rw [← HRR.out]; rfl, rfl⟩
      · rw [if_neg (by decide), if_pos rfl] at HRR
        clear hx0 HMD HBS
        obtain ⟨pa, hpa⟩ : ∃ pa, nab p = pa := ⟨_, rfl⟩
        rw [hpa] at HRR
        have hp := HP.out
        have q2 : ((pa : Int) == 2) = (pa == 2) := by
          by_cases q : pa = 2
          · subst q; rfl
          · rw [show (pa == 2) = false by simp [q]]; simp; omega
        go_wp2_with (go_at_call 25; refine (HSZ.out _ (by omega) (by omega) _).mono ?_; rintro e w5 ⟨rfl, hw⟩; subst w5)
        go_ret
        exact ⟨by rw [← HRR.out, ← q2]; rfl, rfl⟩
      · rw [if_neg (by decide), if_neg (by decide), if_neg (by decide)] at HRR
        rw [if_pos (by simp)] at HRR
        have hx1 : (x == 0) = false := by simp; intro h; exact absurd (hx0.1 h) (by decide)
        clear hx0 HP HMD HBS
        go_wp2_with (go_at_call 25; refine (HSZ.out _ (by omega) (by omega) _).mono ?_; rintro e w5 ⟨rfl, hw⟩; subst w5)
        go_ret
        exact ⟨by rw [← HRR.out]; rfl, rfl⟩
      · rw [if_neg (by decide), if_neg (by decide), if_neg (by decide)] at HRR
        have hx1 : (x == 0) = false := by simp; intro h; exact absurd (hx0.1 h) (by decide)
        rw [if_neg (by simp; intro h; exact absurd (hx0.1 h) (by decide))] at HRR
        obtain ⟨m1, m7, HJ⟩ := HMD.out hne (by rfl)
        obtain ⟨z0, zs⟩ := HBS.out hne (by rfl)
        have HJ := hide HJ
        have hg1 := sg_bd dx
        have hg2 := sg_bd dy
        obtain ⟨sx, hsx⟩ : ∃ sx, sg dx = sx := ⟨_, rfl⟩
        obtain ⟨sy, hsy⟩ : ∃ sy, sg dy = sy := ⟨_, rfl⟩
        rw [hsx] at hg1 z0 zs
        rw [hsy] at hg2 z0 zs
        have HZS : Hid (∀ j, j + 1 < mD f t → ((bt f t j : Nat) : Int) + (sx + 8 * sy) = ((bt f t (j + 1) : Nat) : Int)) := hide zs
        have z1 : (f : Int) + sx + 8 * sy = ((bt f t 0 : Nat) : Int) := by omega
        clear hx0 HP HMD HBS z0 zs
        go_upto_region 16 with (first | (go_at_call 25; refine (HSZ.out _ (by omega) (by omega) _).mono ?_; rintro e w5 ⟨rfl, hw⟩; subst w5) | (go_at_call 63; refine (HSG.out _ _).mono ?_; rintro e w5 ⟨rfl, hw⟩; subst w5))
        clear z1 HSZ
        go_wp2_with fail
        go_loopw [12] (fun v wr => ∃ j : Nat, v = .int .i64 ((bt f t j : Nat) : Int) ∧ j < mD f t ∧ Hid (∀ i, i < j → zg Z (bt f t i) = 0) ∧ w = wr) (fun v _ => 8 - jz f t (intOf v).toNat)
        case atStart => exact ⟨0, rfl, by omega, hide (fun i hi => absurd hi (by omega)), rfl⟩
        case round =>
          obtain ⟨j, rfl, hj, hall, rfl⟩ := hrel
          obtain ⟨q64, qt, qj⟩ := HJ.out j hj
          have HQJ := hide qj
          by_cases hl : j + 1 = mD f t
          · have q1 := qt.2 hl
            rw [btw_end hl hall.out] at HRR
            rw [q1]
            have q2 : ((t : Int) != (t : Int)) = false := by simp
            clear qt qj
            go_wp2_with fail
            go_ret
            exact ⟨by rw [← HRR.out]; rfl, rfl⟩
          · have q1 : bt f t j ≠ t := fun e => hl (qt.1 e)
            have cz := HC.out _ q64
            by_cases hz : zg Z (bt f t j) = 0
            · have HALL : Hid (∀ i, i < j + 1 → zg Z (bt f t i) = 0) := hide (fun i hi => by
                by_cases e : i = j
                · subst e; exact hz
                · exact hall.out i (by omega))
              have hzs := HZS.out j (by omega)
              have HQ1 := hide (HJ.out (j + 1) (by omega)).2.2
              have HB1 := hide (HJ.out (j + 1) (by omega)).1
              rw [hz] at cz
              obtain ⟨q, hq⟩ : ∃ q, bt f t j = q := ⟨_, rfl⟩
              obtain ⟨q', hq'⟩ : ∃ q', bt f t (j + 1) = q' := ⟨_, rfl⟩
              have HQE := hide hq'
              rw [hq] at cz q64 q1 HQJ hzs ⊢
              rw [hq'] at HQ1 HB1 hzs
              clear hq hq' hz qt qj hall
              have hb64 := HB1.out
              have q2 : ((q : Int) != (t : Int)) = true := by simp; omega
              go_wp2_with (go_at_call 63; refine (HSG.out _ _).mono ?_; rintro e w5 ⟨rfl, hw⟩; subst w5)
              refine ⟨⟨j + 1, by rw [HQE.out], by omega, HALL, trivial⟩, ?_⟩
              simp only [intOf, Int.toNat_natCast]
              rw [HQJ.out, HQ1.out]
              omega
            · rw [btw_no (by omega) hz] at HRR
              obtain ⟨zz, hzz⟩ : ∃ zz, zg Z (bt f t j) = zz := ⟨_, rfl⟩
              rw [hzz] at cz hz
              obtain ⟨q, hq⟩ : ∃ q, bt f t j = q := ⟨_, rfl⟩
              rw [hq] at cz q64 q1 ⊢
              clear hq hzz qt qj hall
              have q2 : ((q : Int) != (t : Int)) = true := by simp; omega
              have q3 : (zz != 0) = true := by simp [hz]
              go_wp2_with fail
              go_ret
              exact ⟨by rw [← HRR.out]; rfl, rfl⟩
      · rw [if_neg (by decide), if_neg (by decide), if_neg (by decide)] at HRR
        have hx1 : (x == 0) = false := by simp; intro h; exact absurd (hx0.1 h) (by decide)
        rw [if_neg (by simp; intro h; exact absurd (hx0.1 h) (by decide))] at HRR
        obtain ⟨m1, m7, HJ⟩ := HMD.out hne (by rfl)
        obtain ⟨z0, zs⟩ := HBS.out hne (by rfl)
        have HJ := hide HJ
        have hg1 := sg_bd dx
        have hg2 := sg_bd dy
        obtain ⟨sx, hsx⟩ : ∃ sx, sg dx = sx := ⟨_, rfl⟩
        obtain ⟨sy, hsy⟩ : ∃ sy, sg dy = sy := ⟨_, rfl⟩
        rw [hsx] at hg1 z0 zs
        rw [hsy] at hg2 z0 zs
        have HZS : Hid (∀ j, j + 1 < mD f t → ((bt f t j : Nat) : Int) + (sx + 8 * sy) = ((bt f t (j + 1) : Nat) : Int)) := hide zs
        have z1 : (f : Int) + sx + 8 * sy = ((bt f t 0 : Nat) : Int) := by omega
        clear hx0 HP HMD HBS z0 zs
        go_upto_region 16 with (first | (go_at_call 25; refine (HSZ.out _ (by omega) (by omega) _).mono ?_; rintro e w5 ⟨rfl, hw⟩; subst w5) | (go_at_call 63; refine (HSG.out _ _).mono ?_; rintro e w5 ⟨rfl, hw⟩; subst w5))
        clear z1 HSZ
        go_wp2_with fail
        go_loopw [12] (fun v wr => ∃ j : Nat, v = .int .i64 ((bt f t j : Nat) : Int) ∧ j < mD f t ∧ Hid (∀ i, i < j → zg Z (bt f t i) = 0) ∧ w = wr) (fun v _ => 8 - jz f t (intOf v).toNat)
        case atStart => exact ⟨0, rfl, by omega, hide (fun i hi => absurd hi (by omega)), rfl⟩
        case round =>
          obtain ⟨j, rfl, hj, hall, rfl⟩ := hrel
          obtain ⟨q64, qt, qj⟩ := HJ.out j hj
          have HQJ := hide qj
          by_cases hl : j + 1 = mD f t
          · have q1 := qt.2 hl
            rw [btw_end hl hall.out] at HRR
            rw [q1]
            have q2 : ((t : Int) != (t : Int)) = false := by simp
            clear qt qj
            go_wp2_with fail
            go_ret
            exact ⟨by rw [← HRR.out]; rfl, rfl⟩
          · have q1 : bt f t j ≠ t := fun e => hl (qt.1 e)
            have cz := HC.out _ q64
            by_cases hz : zg Z (bt f t j) = 0
            · have HALL : Hid (∀ i, i < j + 1 → zg Z (bt f t i) = 0) := hide (fun i hi => by
                by_cases e : i = j
                · subst e; exact hz
                · exact hall.out i (by omega))
              have hzs := HZS.out j (by omega)
              have HQ1 := hide (HJ.out (j + 1) (by omega)).2.2
              have HB1 := hide (HJ.out (j + 1) (by omega)).1
              rw [hz] at cz
              obtain ⟨q, hq⟩ : ∃ q, bt f t j = q := ⟨_, rfl⟩
              obtain ⟨q', hq'⟩ : ∃ q', bt f t (j + 1) = q' := ⟨_, rfl⟩
              have HQE := hide hq'
              rw [hq] at cz q64 q1 HQJ hzs ⊢
              rw [hq'] at HQ1 HB1 hzs
              clear hq hq' hz qt qj hall
              have hb64 := HB1.out
              have q2 : ((q : Int) != (t : Int)) = true := by simp; omega
              go_wp2_with (go_at_call 63; refine (HSG.out _ _).mono ?_; rintro e w5 ⟨rfl, hw⟩; subst w5)
              refine ⟨⟨j + 1, by rw [HQE.out], by omega, HALL, trivial⟩, ?_⟩
              simp only [intOf, Int.toNat_natCast]
              rw [HQJ.out, HQ1.out]
              omega
            · rw [btw_no (by omega) hz] at HRR
              obtain ⟨zz, hzz⟩ : ∃ zz, zg Z (bt f t j) = zz := ⟨_, rfl⟩
              rw [hzz] at cz hz
              obtain ⟨q, hq⟩ : ∃ q, bt f t j = q := ⟨_, rfl⟩
              rw [hq] at cz q64 q1 ⊢
              clear hq hzz qt qj hall
              have q2 : ((q : Int) != (t : Int)) = true := by simp; omega
              have q3 : (zz != 0) = true := by simp [hz]
              go_wp2_with fail
              go_ret
              exact ⟨by rw [← HRR.out]; rfl, rfl⟩
      · rw [if_neg (by decide), if_neg (by decide), if_pos rfl] at HRR
        clear hx0 HP HMD HBS
        by_cases q1 : s1 ≤ 1
        · have q2 : (s1 : Int) ≤ 1 := by omega
          rw [show decide (s1 ≤ 1) = true by simp [q1], Bool.true_and] at HRR
          by_cases q3 : s2 ≤ 1
          · have q4 : (s2 : Int) ≤ 1 := by omega
            rw [show decide (s2 ≤ 1) = true by simp [q3]] at HRR
            go_wp2_with (go_at_call 25; refine (HSZ.out _ (by omega) (by omega) _).mono ?_; rintro e w5 ⟨rfl, hw⟩; subst w5)
            go_ret
            exact ⟨by rw [← HRR.out]; rfl, rfl⟩
          · have q4 : decide ((s2 : Int) ≤ 1) = false := by simp; omega
            rw [show decide (s2 ≤ 1) = false by simp [q3]] at HRR
            go_wp2_with (go_at_call 25; refine (HSZ.out _ (by omega) (by omega) _).mono ?_; rintro e w5 ⟨rfl, hw⟩; subst w5)
            go_ret
            exact ⟨by rw [← HRR.out]; rfl, rfl⟩
        · have q2 : decide ((s1 : Int) ≤ 1) = false := by simp; omega
          rw [show decide (s1 ≤ 1) = false by simp [q1], Bool.false_and] at HRR
          go_wp2_with (go_at_call 25; refine (HSZ.out _ (by omega) (by omega) _).mono ?_; rintro e w5 ⟨rfl, hw⟩; subst w5)
          go_ret
          exact ⟨by rw [← HRR.out]; rfl, rfl⟩
  · have b0 : (dx == 0) = false := by simp [h0]
    have hne : ¬ (dx = 0 ∧ dy = 0) := fun h => h0 h.1
    rw [if_neg hne] at HRR
    by_cases h1 : dy = 0
    · have b1 : (dy == 0) = true := by simp [h1]
      obtain rfl : sl = false := by
        rw [HSL.out.1]; simp only [beq_eq_false_iff_ne]; intro h
        have z1 := HNZ.out dx; have z2 := HNZ.out dy; omega
      obtain rfl : st = true := by rw [HSL.out.2]; simp [h1]
      have z0 : ¬ nab dx = 0 := fun e => h0 ((HNZ.out dx).2 e)
      have z1 : nab dy = 0 := (HNZ.out dy).1 h1
      have H2 : ¬ nab dx = nab dy := by omega
      clear h1 z0 z1
      clear HSL
      have hk6 : nab x ≤ 6 := nab_le (by omega) (by omega)
      have hk : nab x = 0 ∨ nab x = 1 ∨ nab x = 2 ∨ nab x = 3 ∨ nab x = 4 ∨ nab x = 5 ∨ nab x = 6 := by omega
      have hsd : nab dx ≤ 7 := nab_le (by omega) (by omega)
      have hse : nab dy ≤ 7 := nab_le (by omega) (by omega)
      have hx0 : x = 0 ↔ nab x = 0 := HNZ.out x
      have h2 := H2
      have hse2 : (((nab dx : Nat) : Int) == ((nab dy : Nat) : Int)) = false := by simp; omega
      clear HNZ hk6
      obtain ⟨s1, hs1⟩ : ∃ s1, nab dx = s1 := ⟨_, rfl⟩
      obtain ⟨s2, hs2⟩ : ∃ s2, nab dy = s2 := ⟨_, rfl⟩
      obtain ⟨xa, hxa⟩ : ∃ xa, nab x = xa := ⟨_, rfl⟩
      rw [hs1] at hsd HRR hse2
      rw [hs2] at hse HRR hse2
      rw [hxa] at hk hx0 HRR
      rcases hk with rfl | rfl | rfl | rfl | rfl | rfl | rfl
      · have hx1 : x = 0 := hx0.2 rfl
        subst hx1
        rw [if_neg (by decide), if_neg (by decide), if_neg (by decide), if_pos (Or.inl rfl)] at HRR
        clear hx0 HP HMD HBS
        go_wp2_with (go_at_call 25; refine (HSZ.out _ (by omega) (by omega) _).mono ?_; rintro e w5 ⟨rfl, hw⟩; subst w5)
        go_ret
        exact ⟨by rw [← HRR.out]; rfl, rfl⟩
      · rw [if_pos rfl] at HRR
        by_cases q1 : s1 = 1
        · subst q1
          rw [show ((1 : Nat) == 1) = true by rfl, Bool.true_and] at HRR
          clear hx0 HP HMD HBS
          go_wp2_with (go_at_call 25; refine (HSZ.out _ (by omega) (by omega) _).mono ?_; rintro e w5 ⟨rfl, hw⟩; subst w5)
          go_ret
          exact ⟨by rw [← HRR.out]; rfl, rfl⟩
        · have q2 : ((s1 : Int) == 1) = false := by simp; omega
          rw [show (s1 == 1) = false by simp [q1], Bool.false_and] at HRR
          clear hx0 HP HMD HBS
          go_wp2_with (go_at_call 25; refine (HSZ.out _ (by omega) (by omega) _).mono ?_; rintro e w5 ⟨rfl, hw⟩; subst w5)
          go_ret
          exact ⟨by rw [← HRR.out]; rfl, rfl⟩
      · rw [if_neg (by decide), if_pos rfl] at HRR
        clear hx0 HMD HBS
        obtain ⟨pa, hpa⟩ : ∃ pa, nab p = pa := ⟨_, rfl⟩
        rw [hpa] at HRR
        have hp := HP.out
        have q2 : ((pa : Int) == 2) = (pa == 2) := by
          by_cases q : pa = 2
          · subst q; rfl
          · rw [show (pa == 2) = false by simp [q]]; simp; omega
        go_wp2_with (go_at_call 25; refine (HSZ.out _ (by omega) (by omega) _).mono ?_; rintro e w5 ⟨rfl, hw⟩; subst w5)
        go_ret
        exact ⟨by rw [← HRR.out, ← q2]; rfl, rfl⟩
      · rw [if_neg (by decide), if_neg (by decide), if_neg (by decide)] at HRR
        rw [if_pos (by simp)] at HRR
        have hx1 : (x == 0) = false := by simp; intro h; exact absurd (hx0.1 h) (by decide)
        clear hx0 HP HMD HBS
        go_wp2_with (go_at_call 25; refine (HSZ.out _ (by omega) (by omega) _).mono ?_; rintro e w5 ⟨rfl, hw⟩; subst w5)
        go_ret
        exact ⟨by rw [← HRR.out]; rfl, rfl⟩
      · rw [if_neg (by decide), if_neg (by decide), if_neg (by decide)] at HRR
        have hx1 : (x == 0) = false := by simp; intro h; exact absurd (hx0.1 h) (by decide)
        rw [if_neg (by simp; intro h; exact absurd (hx0.1 h) (by decide))] at HRR
        obtain ⟨m1, m7, HJ⟩ := HMD.out hne (by rfl)
        obtain ⟨z0, zs⟩ := HBS.out hne (by rfl)
        have HJ := hide HJ
        have hg1 := sg_bd dx
        have hg2 := sg_bd dy
        obtain ⟨sx, hsx⟩ : ∃ sx, sg dx = sx := ⟨_, rfl⟩
        obtain ⟨sy, hsy⟩ : ∃ sy, sg dy = sy := ⟨_, rfl⟩
        rw [hsx] at hg1 z0 zs
        rw [hsy] at hg2 z0 zs
        have HZS : Hid (∀ j, j + 1 < mD f t → ((bt f t j : Nat) : Int) + (sx + 8 * sy) = ((bt f t (j + 1) : Nat) : Int)) := hide zs
        have z1 : (f : Int) + sx + 8 * sy = ((bt f t 0 : Nat) : Int) := by omega
        clear hx0 HP HMD HBS z0 zs
        go_upto_region 16 with (first | (go_at_call 25; refine (HSZ.out _ (by omega) (by omega) _).mono ?_; rintro e w5 ⟨rfl, hw⟩; subst w5) | (go_at_call 63; refine (HSG.out _ _).mono ?_; rintro e w5 ⟨rfl, hw⟩; subst w5))
        clear z1 HSZ
        go_wp2_with fail
        go_loopw [12] (fun v wr => ∃ j : Nat, v = .int .i64 ((bt f t j : Nat) : Int) ∧ j < mD f t ∧ Hid (∀ i, i < j → zg Z (bt f t i) = 0) ∧ w = wr) (fun v _ => 8 - jz f t (intOf v).toNat)
        case atStart => exact ⟨0, rfl, by omega, hide (fun i hi => absurd hi (by omega)), rfl⟩
        case round =>
          obtain ⟨j, rfl, hj, hall, rfl⟩ := hrel
          obtain ⟨q64, qt, qj⟩ := HJ.out j hj
          have HQJ := hide qj
          by_cases hl : j + 1 = mD f t
          · have q1 := qt.2 hl
            rw [btw_end hl hall.out] at HRR
            rw [q1]
            have q2 : ((t : Int) != (t : Int)) = false := by simp
            clear qt qj
            go_wp2_with fail
            go_ret
            exact ⟨by rw [← HRR.out]; rfl, rfl⟩
          · have q1 : bt f t j ≠ t := fun e => hl (qt.1 e)
            have cz := HC.out _ q64
            by_cases hz : zg Z (bt f t j) = 0
            · have HALL : Hid (∀ i, i < j + 1 → zg Z (bt f t i) = 0) := hide (fun i hi => by
                by_cases e : i = j
                · subst e; exact hz
                · exact hall.out i (by omega))
              have hzs := HZS.out j (by omega)
              have HQ1 := hide (HJ.out (j + 1) (by omega)).2.2
              have HB1 := hide (HJ.out (j + 1) (by omega)).1
              rw [hz] at cz
              obtain ⟨q, hq⟩ : ∃ q, bt f t j = q := ⟨_, rfl⟩
              obtain ⟨q', hq'⟩ : ∃ q', bt f t (j + 1) = q' := ⟨_, rfl⟩
              have HQE := hide hq'
              rw [hq] at cz q64 q1 HQJ hzs ⊢
              rw [hq'] at HQ1 HB1 hzs
              clear hq hq' hz qt qj hall
              have hb64 := HB1.out
              have q2 : ((q : Int) != (t : Int)) = true := by simp; omega
              go_wp2_with (go_at_call 63; refine (HSG.out _ _).mono ?_; rintro e w5 ⟨rfl, hw⟩; subst w5)
              refine ⟨⟨j + 1, by rw [HQE.out], by omega, HALL, trivial⟩, ?_⟩
              simp only [intOf, Int.toNat_natCast]
              rw [HQJ.out, HQ1.out]
              omega
            · rw [btw_no (by omega) hz] at HRR
              obtain ⟨zz, hzz⟩ : ∃ zz, zg Z (bt f t j) = zz := ⟨_, rfl⟩
              rw [hzz] at cz hz
              obtain ⟨q, hq⟩ : ∃ q, bt f t j = q := ⟨_, rfl⟩
              rw [hq] at cz q64 q1 ⊢
              clear hq hzz qt qj hall
              have q2 : ((q : Int) != (t : Int)) = true := by simp; omega
              have q3 : (zz != 0) = true := by simp [hz]
              go_wp2_with fail
              go_ret
              exact ⟨by rw [← HRR.out]; rfl, rfl⟩
      · rw [if_neg (by decide), if_neg (by decide), if_neg (by decide)] at HRR
        have hx1 : (x == 0) = false := by simp; intro h; exact absurd (hx0.1 h) (by decide)
        rw [if_neg (by simp; intro h; exact absurd (hx0.1 h) (by decide))] at HRR
        obtain ⟨m1, m7, HJ⟩ := HMD.out hne (by rfl)
        obtain ⟨z0, zs⟩ := HBS.out hne (by rfl)
        have HJ := hide HJ
        have hg1 := sg_bd dx
        have hg2 := sg_bd dy
        obtain ⟨sx, hsx⟩ : ∃ sx, sg dx = sx := ⟨_, rfl⟩
        obtain ⟨sy, hsy⟩ : ∃ sy, sg dy = sy := ⟨_, rfl⟩
        rw [hsx] at hg1 z0 zs
        rw [hsy] at hg2 z0 zs
        have HZS : Hid (∀ j, j + 1 < mD f t → ((bt f t j : Nat) : Int) + (sx + 8 * sy) = ((bt f t (j + 1) : Nat) : Int)) := hide zs
        have z1 : (f : Int) + sx + 8 * sy = ((bt f t 0 : Nat) : Int) := by omega
        clear hx0 HP HMD HBS z0 zs
        go_upto_region 16 with (first | (go_at_call 25; refine (HSZ.out _ (by omega) (by omega) _).mono ?_; rintro e w5 ⟨rfl, hw⟩; subst w5) | (go_at_call 63; refine (HSG.out _ _).mono ?_; rintro e w5 ⟨rfl, hw⟩; subst w5))
        clear z1 HSZ
        go_wp2_with fail
        go_loopw [12] (fun v wr => ∃ j : Nat, v = .int .i64 ((bt f t j : Nat) : Int) ∧ j < mD f t ∧ Hid (∀ i, i < j → zg Z (bt f t i) = 0) ∧ w = wr) (fun v _ => 8 - jz f t (intOf v).toNat)
        case atStart => exact ⟨0, rfl, by omega, hide (fun i hi => absurd hi (by omega)), rfl⟩
        case round =>
          obtain ⟨j, rfl, hj, hall, rfl⟩ := hrel
          obtain ⟨q64, qt, qj⟩ := HJ.out j hj
          have HQJ := hide qj
          by_cases hl : j + 1 = mD f t
          · have q1 := qt.2 hl
            rw [btw_end hl hall.out] at HRR
            rw [q1]
            have q2 : ((t : Int) != (t : Int)) = false := by simp
            clear qt qj
            go_wp2_with fail
            go_ret
            exact ⟨by rw [← HRR.out]; rfl, rfl⟩
          · have q1 : bt f t j ≠ t := fun e => hl (qt.1 e)
            have cz := HC.out _ q64
            by_cases hz : zg Z (bt f t j) = 0
            · have HALL : Hid (∀ i, i < j + 1 → zg Z (bt f t i) = 0) := hide (fun i hi => by
                by_cases e : i = j
                · subst e; exact hz
                · exact hall.out i (by omega))
              have hzs := HZS.out j (by omega)
              have HQ1 := hide (HJ.out (j + 1) (by omega)).2.2
              have HB1 := hide (HJ.out (j + 1) (by omega)).1
              rw [hz] at cz
              obtain ⟨q, hq⟩ : ∃ q, bt f t j = q := ⟨_, rfl⟩
              obtain ⟨q', hq'⟩ : ∃ q', bt f t (j + 1) = q' := ⟨_, rfl⟩
              have HQE := hide hq'
              rw [hq] at cz q64 q1 HQJ hzs ⊢
              rw [hq'] at HQ1 HB1 hzs
              clear hq hq' hz qt qj hall
              have hb64 := HB1.out
              have q2 : ((q : Int) != (t : Int)) = true := by simp; omega
              go_wp2_with (go_at_call 63; refine (HSG.out _ _).mono ?_; rintro e w5 ⟨rfl, hw⟩; subst w5)
              refine ⟨⟨j + 1, by rw [HQE.out], by omega, HALL, trivial⟩, ?_⟩
              simp only [intOf, Int.toNat_natCast]
              rw [HQJ.out, HQ1.out]
              omega
            · rw [btw_no (by omega) hz] at HRR
              obtain ⟨zz, hzz⟩ : ∃ zz, zg Z (bt f t j) = zz := ⟨_, rfl⟩
              rw [hzz] at cz hz
              obtain ⟨q, hq⟩ : ∃ q, bt f t j = q := ⟨_, rfl⟩
              rw [hq] at cz q64 q1 ⊢
              clear hq hzz qt qj hall
              have q2 : ((q : Int) != (t : Int)) = true := by simp; omega
              have q3 : (zz != 0) = true := by simp [hz]
              go_wp2_with fail
              go_ret
              exact ⟨by rw [← HRR.out]; rfl, rfl⟩
      · rw [if_neg (by decide), if_neg (by decide), if_pos rfl] at HRR
        clear hx0 HP HMD HBS
        by_cases q1 : s1 ≤ 1
        · have q2 : (s1 : Int) ≤ 1 := by omega
          rw [show decide (s1 ≤ 1) = true by simp [q1], Bool.true_and] at HRR
          by_cases q3 : s2 ≤ 1
          · have q4 : (s2 : Int) ≤ 1 := by omega
            rw [show decide (s2 ≤ 1) = true by simp [q3]] at HRR
            go_wp2_with (go_at_call 25; refine (HSZ.out _ (by omega) (by omega) _).mono ?_; rintro e w5 ⟨rfl, hw⟩; subst w5)
            go_ret
            exact ⟨by rw [← HRR.out]; rfl, rfl⟩
          · have q4 : decide ((s2 : Int) ≤ 1) = false := by simp; omega
            rw [show decide (s2 ≤ 1) = false by simp [q3]] at HRR
            go_wp2_with (go_at_call 25; refine (HSZ.out _ (by omega) (by omega) _).mono ?_; rintro e w5 ⟨rfl, hw⟩; subst w5)
            go_ret
            exact ⟨by rw [← HRR.out]; rfl, rfl⟩
        · have q2 : decide ((s1 : Int) ≤ 1) = false := by simp; omega
          rw [show decide (s1 ≤ 1) = false by simp [q1], Bool.false_and] at HRR
          go_wp2_with (go_at_call 25; refine (HSZ.out _ (by omega) (by omega) _).mono ?_; rintro e w5 ⟨rfl, hw⟩; subst w5)
          go_ret
          exact ⟨by rw [← HRR.out]; rfl, rfl⟩
    · have b1 : (dy == 0) = false := by simp [h1]
      obtain rfl : st = false := by rw [HSL.out.2]; simp [h0, h1]
      by_cases h2 : nab dx = nab dy
      · obtain rfl : sl = true := by rw [HSL.out.1]; simp [h2]
        clear HSL
        have hk6 : nab x ≤ 6 := nab_le (by omega) (by omega)
        have hk : nab x = 0 ∨ nab x = 1 ∨ nab x = 2 ∨ nab x = 3 ∨ nab x = 4 ∨ nab x = 5 ∨ nab x = 6 := by omega
        have hsd : nab dx ≤ 7 := nab_le (by omega) (by omega)
        have hse : nab dy ≤ 7 := nab_le (by omega) (by omega)
        have hx0 : x = 0 ↔ nab x = 0 := HNZ.out x
        have hse2 : (((nab dx : Nat) : Int) == ((nab dy : Nat) : Int)) = true := by simp [h2]
        clear HNZ hk6
        obtain ⟨s1, hs1⟩ : ∃ s1, nab dx = s1 := ⟨_, rfl⟩
        obtain ⟨s2, hs2⟩ : ∃ s2, nab dy = s2 := ⟨_, rfl⟩
        obtain ⟨xa, hxa⟩ : ∃ xa, nab x = xa := ⟨_, rfl⟩
        rw [hs1] at hsd HRR hse2
        rw [hs2] at hse HRR hse2
        rw [hxa] at hk hx0 HRR
        rcases hk with rfl | rfl | rfl | rfl | rfl | rfl | rfl
        · have hx1 : x = 0 := hx0.2 rfl
          subst hx1
          rw [if_neg (by decide), if_neg (by decide), if_neg (by decide), if_pos (Or.inl rfl)] at HRR
          clear hx0 HP HMD HBS
          go_wp2_with (go_at_call 25; refine (HSZ.out _ (by omega) (by omega) _).mono ?_; rintro e w5 ⟨rfl, hw⟩; subst w5)
          go_ret
          exact ⟨by rw [← HRR.out]; rfl, rfl⟩
        · rw [if_pos rfl] at HRR
          by_cases q1 : s1 = 1
          · subst q1
            rw [show ((1 : Nat) == 1) = true by rfl, Bool.true_and] at HRR
            clear hx0 HP HMD HBS
            go_wp2_with (go_at_call 25; refine (HSZ.out _ (by omega) (by omega) _).mono ?_; rintro e w5 ⟨rfl, hw⟩; subst w5)
            go_ret
            exact ⟨by rw [← HRR.out]; rfl, rfl⟩
          · have q2 : ((s1 : Int) == 1) = false := by simp; omega
            rw [show (s1 == 1) = false by simp [q1], Bool.false_and] at HRR
            clear hx0 HP HMD HBS
            go_wp2_with (go_at_call 25; refine (HSZ.out _ (by omega) (by omega) _).mono ?_; rintro e w5 ⟨rfl, hw⟩; subst w5)
            go_ret
            exact ⟨by rw [← HRR.out]; rfl, rfl⟩
        · rw [if_neg (by decide), if_pos rfl] at HRR
          clear hx0 HMD HBS
          obtain ⟨pa, hpa⟩ : ∃ pa, nab p = pa := ⟨_, rfl⟩
          rw [hpa] at HRR
          have hp := HP.out
          have q2 : ((pa : Int) == 2) = (pa == 2) := by
            by_cases q : pa = 2
            · subst q; rfl
            · rw [show (pa == 2) = false by simp [q]]; simp; omega
          go_wp2_with (go_at_call 25; refine (HSZ.out _ (by omega) (by omega) _).mono ?_; rintro e w5 ⟨rfl, hw⟩; subst w5)
          go_ret
          exact ⟨by rw [← HRR.out, ← q2]; rfl, rfl⟩
        · rw [if_neg (by decide), if_neg (by decide), if_neg (by decide)] at HRR
          have hx1 : (x == 0) = false := by simp; intro h; exact absurd (hx0.1 h) (by decide)
          rw [if_neg (by simp; intro h; exact absurd (hx0.1 h) (by decide))] at HRR
          obtain ⟨m1, m7, HJ⟩ := HMD.out hne (by rfl)
          obtain ⟨z0, zs⟩ := HBS.out hne (by rfl)
          have HJ := hide HJ
          have hg1 := sg_bd dx
          have hg2 := sg_bd dy
          obtain ⟨sx, hsx⟩ : ∃ sx, sg dx = sx := ⟨_, rfl⟩
          obtain ⟨sy, hsy⟩ : ∃ sy, sg dy = sy := ⟨_, rfl⟩
          rw [hsx] at hg1 z0 zs
          rw [hsy] at hg2 z0 zs
          have HZS : Hid (∀ j, j + 1 < mD f t → ((bt f t j : Nat) : Int) + (sx + 8 * sy) = ((bt f t (j + 1) : Nat) : Int)) := hide zs
          have z1 : (f : Int) + sx + 8 * sy = ((bt f t 0 : Nat) : Int) := by omega
          clear hx0 HP HMD HBS z0 zs
          go_upto_region 16 with (first | (go_at_call 25; refine (HSZ.out _ (by omega) (by omega) _).mono ?_; rintro e w5 ⟨rfl, hw⟩; subst w5) | (go_at_call 63; refine (HSG.out _ _).mono ?_; rintro e w5 ⟨rfl, hw⟩; subst w5))
          clear z1 HSZ
          go_wp2_with fail
          go_loopw [12] (fun v wr => ∃ j : Nat, v = .int .i64 ((bt f t j : Nat) : Int) ∧ j < mD f t ∧ Hid (∀ i, i < j → zg Z (bt f t i) = 0) ∧ w = wr) (fun v _ => 8 - jz f t (intOf v).toNat)
          case atStart => exact ⟨0, rfl, by omega, hide (fun i hi => absurd hi (by omega)), rfl⟩
          case round =>
            obtain ⟨j, rfl, hj, hall, rfl⟩ := hrel
            obtain ⟨q64, qt, qj⟩ := HJ.out j hj
            have HQJ := hide qj
            by_cases hl : j + 1 = mD f t
            · have q1 := qt.2 hl
              rw [btw_end hl hall.out] at HRR
              rw [q1]
              have q2 : ((t : Int) != (t : Int)) = false := by simp
              clear qt qj
              go_wp2_with fail
              go_ret
              exact ⟨by rw [← HRR.out]; rfl, rfl⟩
            · have q1 : bt f t j ≠ t := fun e => hl (qt.1 e)
              have cz := HC.out _ q64
              by_cases hz : zg Z (bt f t j) = 0
              · have HALL : Hid (∀ i, i < j + 1 → zg Z (bt f t i) = 0) := hide (fun i hi => by
                  by_cases e : i = j
                  · subst e; exact hz
                  · exact hall.out i (by omega))
                have hzs := HZS.out j (by omega)
                have HQ1 := hide (HJ.out (j + 1) (by omega)).2.2
                have HB1 := hide (HJ.out (j + 1) (by omega)).1
                rw [hz] at cz
                obtain ⟨q, hq⟩ : ∃ q, bt f t j = q := ⟨_, rfl⟩
                obtain ⟨q', hq'⟩ : ∃ q', bt f t (j + 1) = q' := ⟨_, rfl⟩
                have HQE := hide hq'
                rw [hq] at cz q64 q1 HQJ hzs ⊢
                rw [hq'] at HQ1 HB1 hzs
                clear hq hq' hz qt qj hall
                have hb64 := HB1.out
                have q2 : ((q : Int) != (t : Int)) = true := by simp; omega
                go_wp2_with (go_at_call 63; refine (HSG.out _ _).mono ?_; rintro e w5 ⟨rfl, hw⟩; subst w5)
                refine ⟨⟨j + 1, by rw [HQE.out], by omega, HALL, trivial⟩, ?_⟩
                simp only [intOf, Int.toNat_natCast]
                rw [HQJ.out, HQ1.out]
                omega
              · rw [btw_no (by omega) hz] at HRR
                obtain ⟨zz, hzz⟩ : ∃ zz, zg Z (bt f t j) = zz := ⟨_, rfl⟩
                rw [hzz] at cz hz
                obtain ⟨q, hq⟩ : ∃ q, bt f t j = q := ⟨_, rfl⟩
                rw [hq] at cz q64 q1 ⊢
                clear hq hzz qt qj hall
                have q2 : ((q : Int) != (t : Int)) = true := by simp; omega
                have q3 : (zz != 0) = true := by simp [hz]
                go_wp2_with fail
                go_ret
                exact ⟨by rw [← HRR.out]; rfl, rfl⟩
        · rw [if_neg (by decide), if_neg (by decide), if_neg (by decide)] at HRR
          rw [if_pos (by simp)] at HRR
          have hx1 : (x == 0) = false := by simp; intro h; exact absurd (hx0.1 h) (by decide)
          clear hx0 HP HMD HBS
          go_wp2_with (go_at_call 25; refine (HSZ.out _ (by omega) (by omega) _).mono ?_; rintro e w5 ⟨rfl, hw⟩; subst w5)
          go_ret
          exact ⟨by rw [← HRR.out]; rfl, rfl⟩
        · rw [if_neg (by decide), if_neg (by decide), if_neg (by decide)] at HRR
          have hx1 : (x == 0) = false := by simp; intro h; exact absurd (hx0.1 h) (by decide)
          rw [if_neg (by simp; intro h; exact absurd (hx0.1 h) (by decide))] at HRR
          obtain ⟨m1, m7, HJ⟩ := HMD.out hne (by rfl)
          obtain ⟨z0, zs⟩ := HBS.out hne (by rfl)
          have HJ := hide HJ
          have hg1 := sg_bd dx
          have hg2 := sg_bd dy
          obtain ⟨sx, hsx⟩ : ∃ sx, sg dx = sx := ⟨_, rfl⟩
          obtain ⟨sy, hsy⟩ : ∃ sy, sg dy = sy := ⟨_, rfl⟩
          rw [hsx] at hg1 z0 zs
          rw [hsy] at hg2 z0 zs
          have HZS : Hid (∀ j, j + 1 < mD f t → ((bt f t j : Nat) : Int) + (sx + 8 * sy) = ((bt f t (j + 1) : Nat) : Int)) := hide zs
          have z1 : (f : Int) + sx + 8 * sy = ((bt f t 0 : Nat) : Int) := by omega
          clear hx0 HP HMD HBS z0 zs
          go_upto_region 16 with (first | (go_at_call 25; refine (HSZ.out _ (by omega) (by omega) _).mono ?_; rintro e w5 ⟨rfl, hw⟩; subst w5) | (go_at_call 63; refine (HSG.out _ _).mono ?_; rintro e w5 ⟨rfl, hw⟩; subst w5))
          clear z1 HSZ
          go_wp2_with fail
          go_loopw [12] (fun v wr => ∃ j : Nat, v = .int .i64 ((bt f t j : Nat) : Int) ∧ j < mD f t ∧ Hid (∀ i, i < j → zg Z (bt f t i) = 0) ∧ w = wr) (fun v _ => 8 - jz f t (intOf v).toNat)
          case atStart => exact ⟨0, rfl, by omega, hide (fun i hi => absurd hi (by omega)), rfl⟩
          case round =>
            obtain ⟨j, rfl, hj, hall, rfl⟩ := hrel
            obtain ⟨q64, qt, qj⟩ := HJ.out j hj
            have HQJ := hide qj
            by_cases hl : j + 1 = mD f t
            · have q1 := qt.2 hl
              rw [btw_end hl hall.out] at HRR
              rw [q1]
              have q2 : ((t : Int) != (t : Int)) = false := by simp
              clear qt qj
              go_wp2_with fail
              go_ret
              exact ⟨by rw [← HRR.out]; rfl, rfl⟩
            · have q1 : bt f t j ≠ t := fun e => hl (qt.1 e)
              have cz := HC.out _ q64
              by_cases hz : zg Z (bt f t j) = 0
              · have HALL : Hid (∀ i, i < j + 1 → zg Z (bt f t i) = 0) := hide (fun i hi => by
                  by_cases e : i = j
                  · subst e; exact hz
                  · exact hall.out i (by omega))
                have hzs := HZS.out j (by omega)
                have HQ1 := hide (HJ.out (j + 1) (by omega)).2.2
                have HB1 := hide (HJ.out (j + 1) (by omega)).1
                rw [hz] at cz
                obtain ⟨q, hq⟩ : ∃ q, bt f t j = q := ⟨_, rfl⟩
                obtain ⟨q', hq'⟩ : ∃ q', bt f t (j + 1) = q' := ⟨_, rfl⟩
                have HQE := hide hq'
                rw [hq] at cz q64 q1 HQJ hzs ⊢
                rw [hq'] at HQ1 HB1 hzs
                clear hq hq' hz qt qj hall
                have hb64 := HB1.out
                have q2 : ((q : Int) != (t : Int)) = true := by simp; omega
                go_wp2_with (go_at_call 63; refine (HSG.out _ _).mono ?_; rintro e w5 ⟨rfl, hw⟩; subst w5)
                refine ⟨⟨j + 1, by rw [HQE.out], by omega, HALL, trivial⟩, ?_⟩
                simp only [intOf, Int.toNat_natCast]
                rw [HQJ.out, HQ1.out]
                omega
              · rw [btw_no (by omega) hz] at HRR
                obtain ⟨zz, hzz⟩ : ∃ zz, zg Z (bt f t j) = zz := ⟨_, rfl⟩
                rw [hzz] at cz hz
                obtain ⟨q, hq⟩ : ∃ q, bt f t j = q := ⟨_, rfl⟩
                rw [hq] at cz q64 q1 ⊢
                clear hq hzz qt qj hall
                have q2 : ((q : Int) != (t : Int)) = true := by simp; omega
                have q3 : (zz != 0) = true := by simp [hz]
                go_wp2_with fail
                go_ret
                exact ⟨by rw [← HRR.out]; rfl, rfl⟩
        · rw [if_neg (by decide), if_neg (by decide), if_pos rfl] at HRR
          clear hx0 HP HMD HBS
          by_cases q1 : s1 ≤ 1
          · have q2 : (s1 : Int) ≤ 1 := by omega
            rw [show decide (s1 ≤ 1) = true by simp [q1], Bool.true_and] at HRR
            by_cases q3 : s2 ≤ 1
            · have q4 : (s2 : Int) ≤ 1 := by omega
              rw [show decide (s2 ≤ 1) = true by simp [q3]] at HRR
              go_wp2_with (go_at_call 25; refine (HSZ.out _ (by omega) (by omega) _).mono ?_; rintro e w5 ⟨rfl, hw⟩; subst w5)
              go_ret
              exact ⟨by rw [← HRR.out]; rfl, rfl⟩
            · have q4 : decide ((s2 : Int) ≤ 1) = false := by simp; omega
              rw [show decide (s2 ≤ 1) = false by simp [q3]] at HRR
              go_wp2_with (go_at_call 25; refine (HSZ.out _ (by omega) (by omega) _).mono ?_; rintro e w5 ⟨rfl, hw⟩; subst w5)
              go_ret
              exact ⟨by rw [← HRR.out]; rfl, rfl⟩
          · have q2 : decide ((s1 : Int) ≤ 1) = false := by simp; omega
            rw [show decide (s1 ≤ 1) = false by simp [q1], Bool.false_and] at HRR
            go_wp2_with (go_at_call 25; refine (HSZ.out _ (by omega) (by omega) _).mono ?_; rintro e w5 ⟨rfl, hw⟩; subst w5)
            go_ret
            exact ⟨by rw [← HRR.out]; rfl, rfl⟩
      · obtain rfl : sl = false := by rw [HSL.out.1]; simp [h2]
        clear HSL
        have hk6 : nab x ≤ 6 := nab_le (by omega) (by omega)
        have hk : nab x = 0 ∨ nab x = 1 ∨ nab x = 2 ∨ nab x = 3 ∨ nab x = 4 ∨ nab x = 5 ∨ nab x = 6 := by omega
        have hsd : nab dx ≤ 7 := nab_le (by omega) (by omega)
        have hse : nab dy ≤ 7 := nab_le (by omega) (by omega)
        have hx0 : x = 0 ↔ nab x = 0 := HNZ.out x
        have hse2 : (((nab dx : Nat) : Int) == ((nab dy : Nat) : Int)) = false := by simp; omega
        clear HNZ hk6
        obtain ⟨s1, hs1⟩ : ∃ s1, nab dx = s1 := ⟨_, rfl⟩
        obtain ⟨s2, hs2⟩ : ∃ s2, nab dy = s2 := ⟨_, rfl⟩
        obtain ⟨xa, hxa⟩ : ∃ xa, nab x = xa := ⟨_, rfl⟩
        rw [hs1] at hsd HRR hse2
        rw [hs2] at hse HRR hse2
        rw [hxa] at hk hx0 HRR
        rcases hk with rfl | rfl | rfl | rfl | rfl | rfl | rfl
        · have hx1 : x = 0 := hx0.2 rfl
          subst hx1
          rw [if_neg (by decide), if_neg (by decide), if_neg (by decide), if_pos (Or.inl rfl)] at HRR
          clear hx0 HP HMD HBS
          go_wp2_with (go_at_call 25; refine (HSZ.out _ (by omega) (by omega) _).mono ?_; rintro e w5 ⟨rfl, hw⟩; subst w5)
          go_ret
          exact ⟨by rw [← HRR.out]; rfl, rfl⟩
        · rw [if_pos rfl] at HRR
          by_cases q1 : s1 = 1
          · subst q1
            rw [show ((1 : Nat) == 1) = true by rfl, Bool.true_and] at HRR
            clear hx0 HP HMD HBS
            go_wp2_with (go_at_call 25; refine (HSZ.out _ (by omega) (by omega) _).mono ?_; rintro e w5 ⟨rfl, hw⟩; subst w5)
            go_ret
            exact ⟨by rw [← HRR.out]; rfl, rfl⟩
          · have q2 : ((s1 : Int) == 1) = false := by simp; omega
            rw [show (s1 == 1) = false by simp [q1], Bool.false_and] at HRR
            clear hx0 HP HMD HBS
            go_wp2_with (go_at_call 25; refine (HSZ.out _ (by omega) (by omega) _).mono ?_; rintro e w5 ⟨rfl, hw⟩; subst w5)
            go_ret
            exact ⟨by rw [← HRR.out]; rfl, rfl⟩
        · rw [if_neg (by decide), if_pos rfl] at HRR
          clear hx0 HMD HBS
          obtain ⟨pa, hpa⟩ : ∃ pa, nab p = pa := ⟨_, rfl⟩
          rw [hpa] at HRR
          have hp := HP.out
          have q2 : ((pa : Int) == 2) = (pa == 2) := by
            by_cases q : pa = 2
            · subst q; rfl
            · rw [show (pa == 2) = false by simp [q]]; simp; omega
          go_wp2_with (go_at_call 25; refine (HSZ.out _ (by omega) (by omega) _).mono ?_; rintro e w5 ⟨rfl, hw⟩; subst w5)
          go_ret
          exact ⟨by rw [← HRR.out, ← q2]; rfl, rfl⟩
        · rw [if_neg (by decide), if_neg (by decide), if_neg (by decide)] at HRR
          rw [if_pos (by simp)] at HRR
          have hx1 : (x == 0) = false := by simp; intro h; exact absurd (hx0.1 h) (by decide)
          clear hx0 HP HMD HBS
          go_wp2_with (go_at_call 25; refine (HSZ.out _ (by omega) (by omega) _).mono ?_; rintro e w5 ⟨rfl, hw⟩; subst w5)
          go_ret
          exact ⟨by rw [← HRR.out]; rfl, rfl⟩
        · rw [if_neg (by decide), if_neg (by decide), if_neg (by decide)] at HRR
          rw [if_pos (by simp)] at HRR
          have hx1 : (x == 0) = false := by simp; intro h; exact absurd (hx0.1 h) (by decide)
          clear hx0 HP HMD HBS
          go_wp2_with (go_at_call 25; refine (HSZ.out _ (by omega) (by omega) _).mono ?_; rintro e w5 ⟨rfl, hw⟩; subst w5)
          go_ret
          exact ⟨by rw [← HRR.out]; rfl, rfl⟩
        · rw [if_neg (by decide), if_neg (by decide), if_neg (by decide)] at HRR
          rw [if_pos (by simp)] at HRR
          have hx1 : (x == 0) = false := by simp; intro h; exact absurd (hx0.1 h) (by decide)
          clear hx0 HP HMD HBS
          go_wp2_with (go_at_call 25; refine (HSZ.out _ (by omega) (by omega) _).mono ?_; rintro e w5 ⟨rfl, hw⟩; subst w5)
          go_ret
          exact ⟨by rw [← HRR.out]; rfl, rfl⟩
        · rw [if_neg (by decide), if_neg (by decide), if_pos rfl] at HRR
          clear hx0 HP HMD HBS
          by_cases q1 : s1 ≤ 1
          · have q2 : (s1 : Int) ≤ 1 := by omega
            rw [show decide (s1 ≤ 1) = true by simp [q1], Bool.true_and] at HRR
            by_cases q3 : s2 ≤ 1
            · have q4 : (s2 : Int) ≤ 1 := by omega
              rw [show decide (s2 ≤ 1) = true by simp [q3]] at HRR
              go_wp2_with (go_at_call 25; refine (HSZ.out _ (by omega) (by omega) _).mono ?_; rintro e w5 ⟨rfl, hw⟩; subst w5)
              go_ret
              exact ⟨by rw [← HRR.out]; rfl, rfl⟩
            · have q4 : decide ((s2 : Int) ≤ 1) = false := by simp; omega
              rw [show decide (s2 ≤ 1) = false by simp [q3]] at HRR
              go_wp2_with (go_at_call 25; refine (HSZ.out _ (by omega) (by omega) _).mono ?_; rintro e w5 ⟨rfl, hw⟩; subst w5)
              go_ret
              exact ⟨by rw [← HRR.out]; rfl, rfl⟩
          · have q2 : decide ((s1 : Int) ≤ 1) = false := by simp; omega
            rw [show decide (s1 ≤ 1) = false by simp [q1], Bool.false_and] at HRR
            go_wp2_with (go_at_call 25; refine (HSZ.out _ (by omega) (by omega) _).mono ?_; rintro e w5 ⟨rfl, hw⟩; subst w5)
            go_ret
            exact ⟨by rw [← HRR.out]; rfl, rfl⟩

end Go.Proofs.YtdmlamnonbmboaaDoor
