/-
  Chess: where a castling brings the king, by the document: walked. No conditions beyond those that each theorem bears.
-/
import Derived.Test.YtdmlamnonbmboaaDoorQ35
import Derived.Test.YtdmlamnonbmboaaDoorQ10
import Derived.Test.YtdmlamnonbmboaaDoorQ36
namespace Go.Proofs.YtdmlamnonbmboaaDoor
open Go.RowKit Go.Shelf

theorem tab_bz : ((List.range 16).all fun k => (List.range 4).all fun i => (bits BinOp.and IntKind.i64 ((k : Int) / 2 ^ i) 1 == 0) == !(bitB (k : Int) i)) = true := by decide +kernel
theorem bit_zero {k : Int} {i : Nat} (hk : 0 ≤ k ∧ k ≤ 15) (hi : i < 4) : (bits BinOp.and IntKind.i64 (k / 2 ^ i) 1 == 0) = !(bitB k i) := by
  obtain ⟨n, rfl⟩ : ∃ n : Nat, k = (n : Int) := ⟨k.toNat, by omega⟩
  exact beq_iff_eq.1 (allN (allN tab_bz (show n < 16 by omega)) hi)

/-- Where a castling brings the king; -1: it may not be. -/
def ctB (Z : List Int) (t : Nat) (k : Int) (i : Nat) : Bool := bitB k i && sdP i == t && (cBt i).all (fun p => zg Z p == 0) && decide (atL Z (kgP i) (1 - t) = []) && decide (atL Z (cOv i) (1 - t) = []) && decide (atL Z (cTo i) (1 - t) = [])
def ctI (Z : List Int) (t : Nat) (k : Int) (i : Nat) : Int := if ctB Z t k i = true then (cTo i : Nat) else -1
theorem ct_no {Z : List Int} {t : Nat} {k : Int} {i : Nat} (h : ctB Z t k i = false) : ctI Z t k i = -1 := by unfold ctI; rw [h]; rfl
theorem ct_bit {Z : List Int} {t : Nat} {k : Int} {i : Nat} (h : bitB k i = false) : ctI Z t k i = -1 := ct_no (by unfold ctB; rw [h]; rfl)
theorem ct_side {Z : List Int} {t : Nat} {k : Int} {i s : Nat} (h : ¬ t = s) (hs : sdP i = s) : ctI Z t k i = -1 := ct_no (by
  have : (sdP i == t) = false := by rw [beq_eq_false_iff_ne, hs]; omega
  unfold ctB; rw [this]; simp)
theorem ct_full {Z : List Int} {t : Nat} {k : Int} {i x : Nat} (hx : x ∈ cBt i) (h : ¬ zg Z x = 0) : ctI Z t k i = -1 := ct_no (by
  have : (cBt i).all (fun p => zg Z p == 0) = false := by
    rw [List.all_eq_false]
    exact ⟨x, hx, by simpa using h⟩
  unfold ctB; rw [this]; simp)
theorem ct_att {Z : List Int} {t : Nat} {k : Int} {i x : Nat} (hx : x = kgP i ∨ x = cOv i ∨ x = cTo i) (h : ¬ atL Z x (1 - t) = []) : ctI Z t k i = -1 := ct_no (by
  unfold ctB
  rcases hx with rfl | rfl | rfl
  · rw [decide_eq_false h]; simp
  · rw [decide_eq_false h]; simp
  · rw [decide_eq_false h]; simp)
theorem ct_yes {Z : List Int} {t : Nat} {k : Int} {i : Nat} (h1 : bitB k i = true) (h2 : t = sdP i) (h3 : ∀ p ∈ cBt i, zg Z p = 0) (h4 : atL Z (kgP i) (1 - t) = []) (h5 : atL Z (cOv i) (1 - t) = []) (h6 : atL Z (cTo i) (1 - t) = []) : ctI Z t k i = ((cTo i : Nat) : Int) := by
  have : (cBt i).all (fun p => zg Z p == 0) = true := by
    rw [List.all_eq_true]
    exact fun p hp => by rw [h3 p hp]; rfl
  unfold ctI ctB
  rw [h1, this, h4, h5, h6, ← h2]
  simp

attribute [local irreducible] ctI atL bitB

set_option maxRecDepth 100000 in
set_option maxHeartbeats 8000000 in
theorem castle_0 (a : Option Addr) (c : Nat) (Z : List Int) (t : Nat) (k e h f : Int) (ht : t ≤ 1) (hk : 0 ≤ k ∧ k ≤ 15) (hz : Pz Z) (w : World) (hR : Rd w a 64 c Z) :
    Calls Tryd.prog 57 #[.agg (chA a 64 c (t : Nat) k e h f), .int .i64 0] w fun r w' => r = .returned (.int .i64 (ctI Z t k 0)) ∧ Below w.heap.size w w' := by
  obtain ⟨g, hg⟩ : ∃ g, w.heap.size = g := ⟨_, rfl⟩
  obtain ⟨T, hT⟩ : ∃ T : Int, ((t : Nat) : Int) = T := ⟨_, rfl⟩
  have HT := hide hT
  obtain ⟨w1, hw1⟩ : ∃ w1, w.alloc (.cells (chA a 64 c T k e h f) 24) = w1 := ⟨_, rfl⟩
  have B1 : Below w.heap.size w w1 := by rw [← hw1]; exact (Below.refl _ w).alloc (Nat.le_refl _) _
  have C1 : Ch w1 g a 64 c T k e h f := by rw [← hw1, ← hg]; exact Ch.new w a 64 c T k e h f
  have s1 : w1.heap.size = g + 1 := by rw [← hw1, ← hg]; simp
  have hbt := bit_zero hk (show 0 < 4 by omega)
  obtain ⟨x0, x1, x2, -, -, -⟩ := C1.cells
  have HB1 : Hid (Below g w w1) := hide (by rw [← hg]; exact B1)
  have HG1 : Hid (g ≤ w1.heap.size) := hide (by omega)
  obtain ⟨ct, hct⟩ : ∃ ct, ctI Z t k 0 = ct := ⟨_, rfl⟩
  have HCT := hide hct
  rw [hT, hct]
  have hR1 := hR.mono B1
  clear B1 hR hT hct
  cases hb : bitB k 0 with
  | false =>
    have hb0 : (bits BinOp.and .i64 (k) 1 == 0) = true := by simpa [hb] using hbt
    have HR : Hid (ct = -1) := hide (by rw [← HCT.out]; exact ct_bit hb)
    clear hbt hR1 C1
    try rw [hg]
    go_enter Tryd.func57, Tryd.ntmps57
    go_upto_region 1 with fail
    try rw [hg]
    clear hw1
    go_wp2_with fail
    go_ret
    exact ⟨by rw [HR.out]; rfl, HB1.out⟩
  | true =>
    have hb0 : (bits BinOp.and .i64 (k) 1 == 0) = false := by simpa [hb] using hbt
    by_cases hside : t = 0
    · have hs0 : ((0 : Int) != T) = false := by rw [← HT.out, hside]; rfl
      have HSD := hide hside
      have HBT := hide hb
      clear hside hbt hb
      obtain ⟨wK, hwK⟩ : ∃ wK, w1.alloc (.cells #[.int .i64 4, .int .i64 4, .int .i64 60, .int .i64 60] 3) = wK := ⟨_, rfl⟩
      have vK : Vb wK (g + 1) 3 [.int .i64 4, .int .i64 4, .int .i64 60, .int .i64 60] := by rw [← hwK, ← s1]; exact Vb.new w1 3 _
      have sK : wK.heap.size = g + 2 := by rw [← hwK]; simp [s1]
      obtain ⟨wA, hwA⟩ : ∃ wA, wK.alloc (.cells #[.int .i64 5, .int .i64 6] 3) = wA := ⟨_, rfl⟩
      have vA : Vb wA (g + 2) 3 [.int .i64 5, .int .i64 6] := by rw [← hwA, ← sK]; exact Vb.new wK 3 _
      have sA : wA.heap.size = g + 3 := by rw [← hwA]; simp [sK]
      obtain ⟨wB, hwB⟩ : ∃ wB, wA.alloc (.cells #[.int .i64 1, .int .i64 2, .int .i64 3] 3) = wB := ⟨_, rfl⟩
      have vB : Vb wB (g + 3) 3 [.int .i64 1, .int .i64 2, .int .i64 3] := by rw [← hwB, ← sA]; exact Vb.new wA 3 _
      have sB : wB.heap.size = g + 4 := by rw [← hwB]; simp [sA]
      obtain ⟨wC, hwC⟩ : ∃ wC, wB.alloc (.cells #[.int .i64 61, .int .i64 62] 3) = wC := ⟨_, rfl⟩
      have vC : Vb wC (g + 4) 3 [.int .i64 61, .int .i64 62] := by rw [← hwC, ← sB]; exact Vb.new wB 3 _
      have sC : wC.heap.size = g + 5 := by rw [← hwC]; simp [sB]
      obtain ⟨wD, hwD⟩ : ∃ wD, wC.alloc (.cells #[.int .i64 57, .int .i64 58, .int .i64 59] 3) = wD := ⟨_, rfl⟩
      have vD : Vb wD (g + 5) 3 [.int .i64 57, .int .i64 58, .int .i64 59] := by rw [← hwD, ← sC]; exact Vb.new wC 3 _
      have sD : wD.heap.size = g + 6 := by rw [← hwD]; simp [sC]
      obtain ⟨wE, hwE⟩ : ∃ wE, wD.alloc (.cells #[.slice (some ⟨g + 2, 0, none⟩) 2 2, .slice (some ⟨g + 3, 0, none⟩) 3 3, .slice (some ⟨g + 4, 0, none⟩) 2 2, .slice (some ⟨g + 5, 0, none⟩) 3 3] 22) = wE := ⟨_, rfl⟩
      have vE : Vb wE (g + 6) 22 [.slice (some ⟨g + 2, 0, none⟩) 2 2, .slice (some ⟨g + 3, 0, none⟩) 3 3, .slice (some ⟨g + 4, 0, none⟩) 2 2, .slice (some ⟨g + 5, 0, none⟩) 3 3] := by rw [← hwE, ← sD]; exact Vb.new wD 22 _
      have sE : wE.heap.size = g + 7 := by rw [← hwE]; simp [sD]
      have bK : Below w1.heap.size w1 wK := by rw [← hwK]; exact (Below.refl _ _).alloc (Nat.le_refl _) _
      have bA : Below wK.heap.size wK wA := by rw [← hwA]; exact (Below.refl _ _).alloc (Nat.le_refl _) _
      have bB : Below wA.heap.size wA wB := by rw [← hwB]; exact (Below.refl _ _).alloc (Nat.le_refl _) _
      have bC : Below wB.heap.size wB wC := by rw [← hwC]; exact (Below.refl _ _).alloc (Nat.le_refl _) _
      have bD : Below wC.heap.size wC wD := by rw [← hwD]; exact (Below.refl _ _).alloc (Nat.le_refl _) _
      have bE : Below wD.heap.size wD wE := by rw [← hwE]; exact (Below.refl _ _).alloc (Nat.le_refl _) _
      have b1E : Below w1.heap.size w1 wE := ((((bK.trans (bA.mono (by omega))).trans (bB.mono (by omega))).trans (bC.mono (by omega))).trans (bD.mono (by omega))).trans (bE.mono (by omega))
      have vL : Vb wE (g + 2) 3 [.int .i64 5, .int .i64 6] := ((((vA.mono bB).mono bC).mono bD).mono bE)
      have cK := vK.cell (i := 0) rfl
      have cE := vE.cell (i := 0) rfl
      have HBE := hide b1E
      have HVL := hide vL
      have HCE := hide (C1.below b1E (by omega))
      have HRE := hide (hR1.mono b1E)
      have HSE := hide sE
      clear vK vA vB vC vD vE bK bA bB bC bD bE b1E vL hR1 C1
      try rw [hg]
      go_enter Tryd.func57, Tryd.ntmps57
      go_upto_region 1 with fail
      try rw [hg]
      clear hw1
      go_upto_region 5 with fail
      clear hwK hwA hwB hwC hwD hwE cK cE sK sA sB sC sD sE s1 x0 x1 x2
      have hcm := HRE.out.max
      unfold maxLen at hcm
      have hcc := HRE.out.cap
      obtain ⟨rb, ro, rfl, hcl⟩ := HRE.out.cells (by omega)
      have HC := hide hcl
      have HAT : Hid (∀ W p, p < 64 → Rd W (some ⟨rb, ro, none⟩) 64 c Z → Calls Tryd.prog 27 #[.slice (some ⟨rb, ro, none⟩) 64 c, .int .i64 (p : Nat), .int .i64 ((1 - t : Nat) : Int)] W fun e w' => ∃ a' c', e = .returned (.slice a' (atL Z p (1 - t)).length c') ∧ Rd w' a' (atL Z p (1 - t)).length c' (toI (atL Z p (1 - t))) ∧ Below W.heap.size W w') := hide (fun W p hp hr => AttackersOf_any _ c Z p (1 - t) hp hz W hr)
      have htm : (1 : Int) - T = ((1 - t : Nat) : Int) := by rw [← HT.out]; omega
      have HTM := hide htm
      obtain ⟨y0, y1, -, -, -, -⟩ := HCE.out.cells
      clear hcl htm hz
      go_wp2_with fail
      go_loopw [7] (fun v wr => ∃ i : Nat, v = .int .i64 i ∧ i ≤ 2 ∧ Hid (∀ j, j < i → zg Z ([5, 6].getD j 0) = 0) ∧ Hid (Below wE.heap.size wE wr)) (fun v _ => 2 - (intOf v).toNat)
      case atStart => exact ⟨0, rfl, by omega, hide (fun j hj => by omega), hide (Below.refl _ _)⟩
      case round =>
        obtain ⟨i, rfl, hi, hzz, hwr⟩ := hrel
        have HRw := hide (HRE.out.mono hwr.out)
        have HCw : Hid (Ch wr g (some ⟨rb, ro, none⟩) 64 c T k e h f) := hide (HCE.out.below hwr.out (by have := HSE.out; omega))
        have HVw := hide (HVL.out.mono hwr.out)
        have HCz : Hid (∀ i, i < 64 → wr.cell? ⟨rb, ro + i, none⟩ = some (.int .i64 (Z.getD i 0))) := hide (fun i hi => (hwr.out.cell (p := ⟨rb, ro + i, none⟩) (World.block_lt_of_cell? wE _ (HC.out i hi))).trans (HC.out i hi))
        clear y0 y1
        obtain ⟨y0, y1, -, -, -, -⟩ := HCw.out.cells
        rcases (show i = 0 ∨ i = 1 ∨ i = 2 by omega) with rfl | rfl | rfl
        · have l0 := HVw.out.cell (i := 0) rfl
          have z0 := HCz.out 5 (by omega)
          by_cases h0 : zg Z 5 = 0
          · have hz0 : (zg Z 5 != 0) = false := by simp [h0]
            obtain ⟨zv, hzv⟩ : ∃ zv, Z.getD 5 0 = zv := ⟨_, rfl⟩
            have hzv' : zg Z 5 = zv := hzv
            rw [hzv] at z0
            rw [hzv'] at hz0
            have HN : Hid (∀ j, j < 1 → zg Z ([5, 6].getD j 0) = 0) := hide (fun j hj => by
              by_cases hjj : j = 0
              · subst hjj; exact h0
              · exact hzz.out j (by omega))
            clear h0 hzv hzv' hzz
            go_upto_region 8 with fail
            go_quiet (fail)
            go_wp2_with fail
            exact ⟨⟨1, rfl, by omega, HN, hide (hwr.out.trans (by first | exact Below.refl _ _ | exact drewN_below _ _ _))⟩, by simp [intOf]⟩
          · have hz0 : (zg Z 5 != 0) = true := by simp [h0]
            obtain ⟨zv, hzv⟩ : ∃ zv, Z.getD 5 0 = zv := ⟨_, rfl⟩
            have hzv' : zg Z 5 = zv := hzv
            rw [hzv] at z0
            rw [hzv'] at hz0
            have HR : Hid (ct = -1) := hide (by rw [← HCT.out]; exact ct_full (x := 5) (by decide) h0)
            clear h0 hzv hzv' hzz
            go_upto_region 8 with fail
            go_quiet (fail)
            go_wp2_with fail
            go_ret
            exact ⟨by rw [HR.out]; rfl, HB1.out.trans ((HBE.out.trans ((hwr.out.trans (by first | exact Below.refl _ _ | exact drewN_below _ _ _)).mono HBE.out.size)).mono HG1.out)⟩
        · have l0 := HVw.out.cell (i := 1) rfl
          have z0 := HCz.out 6 (by omega)
          by_cases h0 : zg Z 6 = 0
          · have hz0 : (zg Z 6 != 0) = false := by simp [h0]
            obtain ⟨zv, hzv⟩ : ∃ zv, Z.getD 6 0 = zv := ⟨_, rfl⟩
            have hzv' : zg Z 6 = zv := hzv
            rw [hzv] at z0
            rw [hzv'] at hz0
            have HN : Hid (∀ j, j < 2 → zg Z ([5, 6].getD j 0) = 0) := hide (fun j hj => by
              by_cases hjj : j = 1
              · subst hjj; exact h0
              · exact hzz.out j (by omega))
            clear h0 hzv hzv' hzz
            go_upto_region 8 with fail
            go_quiet (fail)
            go_wp2_with fail
            exact ⟨⟨2, rfl, by omega, HN, hide (hwr.out.trans (by first | exact Below.refl _ _ | exact drewN_below _ _ _))⟩, by simp [intOf]⟩
          · have hz0 : (zg Z 6 != 0) = true := by simp [h0]
            obtain ⟨zv, hzv⟩ : ∃ zv, Z.getD 6 0 = zv := ⟨_, rfl⟩
            have hzv' : zg Z 6 = zv := hzv
            rw [hzv] at z0
            rw [hzv'] at hz0
            have HR : Hid (ct = -1) := hide (by rw [← HCT.out]; exact ct_full (x := 6) (by decide) h0)
            clear h0 hzv hzv' hzz
            go_upto_region 8 with fail
            go_quiet (fail)
            go_wp2_with fail
            go_ret
            exact ⟨by rw [HR.out]; rfl, HB1.out.trans ((HBE.out.trans ((hwr.out.trans (by first | exact Below.refl _ _ | exact drewN_below _ _ _)).mono HBE.out.size)).mono HG1.out)⟩
        · have HZ := hzz
          clear hzz
          rw [show ((2 : Nat) : Int) = (2 : Int) from rfl]
          obtain ⟨wF, hwF⟩ : ∃ wF, wr.alloc (.cells #[.int .i64 1, .int .i64 (-1), .int .i64 1, .int .i64 (-1)] 3) = wF := ⟨_, rfl⟩
          have vF : Vb wF wr.heap.size 3 [.int .i64 1, .int .i64 (-1), .int .i64 1, .int .i64 (-1)] := by rw [← hwF]; exact Vb.new wr 3 _
          have bF : Below wr.heap.size wr wF := by rw [← hwF]; exact (Below.refl _ _).alloc (Nat.le_refl _) _
          have cF := vF.cell (i := 0) rfl
          have HBF : Hid (Below wE.heap.size wE wF) := hide (hwr.out.trans (bF.mono hwr.out.size))
          clear vF bF
          go_upto_region 11 with fail
          clear hwF cF HRw HCw HVw HCz
          clear y0 y1
          go_wp2_with fail
          go_loopw [9] (fun v wr => ∃ i : Nat, v = .int .i64 i ∧ i ≤ 3 ∧ Hid (∀ j, j < i → atL Z ([4, 5, 6].getD j 0) (1 - t) = []) ∧ Hid (Below wE.heap.size wE wr)) (fun v _ => 3 - (intOf v).toNat)
          case atStart => exact ⟨0, rfl, by omega, hide (fun j hj => by omega), HBF⟩
          case round =>
            clear hwr
            obtain ⟨i, rfl, hi, haa, hwr⟩ := hrel
            have HRw := hide (HRE.out.mono hwr.out)
            have HCw : Hid (Ch wr g (some ⟨rb, ro, none⟩) 64 c T k e h f) := hide (HCE.out.below hwr.out (by have := HSE.out; omega))
            obtain ⟨y0, y1, -, -, -, -⟩ := HCw.out.cells
            have htm := HTM.out
            have htw : IntKind.i64.wrap (1 - T) = ((1 - t : Nat) : Int) := by rw [htm, IntKind.wrap_i64]; omega
            rcases (show i = 0 ∨ i = 1 ∨ i = 2 ∨ i = 3 by omega) with rfl | rfl | rfl | rfl
            · by_cases h0 : atL Z 4 (1 - t) = []
              · have HN : Hid (∀ j, j < 1 → atL Z ([4, 5, 6].getD j 0) (1 - t) = []) := hide (fun j hj => by
                  by_cases hjj : j = 0
                  · subst hjj; exact h0
                  · exact haa.out j (by omega))
                have HLN : Hid ((atL Z 4 (1 - t)).length = 0) := hide (by rw [h0]; rfl)
                clear h0 haa
                go_wp2_with fail
                refine (HAT.out _ 4 (by omega) HRw.out).mono ?_
                rintro r w6 ⟨a', c', rfl, _, hb6⟩
                rw [HLN.out]
                have HB6 : Hid (Below wE.heap.size wE w6) := hide (hwr.out.trans (hb6.mono hwr.out.size))
                clear hb6
                go_wp2_with fail
                exact ⟨⟨1, rfl, by omega, HN, HB6⟩, by simp [intOf]⟩
              · have HR : Hid (ct = -1) := hide (by rw [← HCT.out]; exact ct_att (x := 4) (by decide) h0)
                obtain ⟨ln, hln⟩ : ∃ ln, (atL Z 4 (1 - t)).length = ln := ⟨_, rfl⟩
                have hl0 : 0 < ln := by
                  rw [← hln]; exact Nat.pos_of_ne_zero (fun e0 => h0 (List.length_eq_zero_iff.1 e0))
                have hlb : ((ln : Int) > 0) := by omega
                clear h0 haa
                go_wp2_with fail
                refine (HAT.out _ 4 (by omega) HRw.out).mono ?_
                rintro r w6 ⟨a', c', rfl, _, hb6⟩
                rw [hln]
                have HB6 : Hid (Below wE.heap.size wE w6) := hide (hwr.out.trans (hb6.mono hwr.out.size))
                clear hb6 hln
                go_wp2_with fail
                go_ret
                exact ⟨by rw [HR.out]; rfl, HB1.out.trans ((HBE.out.trans (HB6.out.mono HBE.out.size)).mono HG1.out)⟩
            · by_cases h0 : atL Z 5 (1 - t) = []
              · have HN : Hid (∀ j, j < 2 → atL Z ([4, 5, 6].getD j 0) (1 - t) = []) := hide (fun j hj => by
                  by_cases hjj : j = 1
                  · subst hjj; exact h0
                  · exact haa.out j (by omega))
                have HLN : Hid ((atL Z 5 (1 - t)).length = 0) := hide (by rw [h0]; rfl)
                clear h0 haa
                go_wp2_with fail
                refine (HAT.out _ 5 (by omega) HRw.out).mono ?_
                rintro r w6 ⟨a', c', rfl, _, hb6⟩
                rw [HLN.out]
                have HB6 : Hid (Below wE.heap.size wE w6) := hide (hwr.out.trans (hb6.mono hwr.out.size))
                clear hb6
                go_wp2_with fail
                exact ⟨⟨2, rfl, by omega, HN, HB6⟩, by simp [intOf]⟩
              · have HR : Hid (ct = -1) := hide (by rw [← HCT.out]; exact ct_att (x := 5) (by decide) h0)
                obtain ⟨ln, hln⟩ : ∃ ln, (atL Z 5 (1 - t)).length = ln := ⟨_, rfl⟩
                have hl0 : 0 < ln := by
                  rw [← hln]; exact Nat.pos_of_ne_zero (fun e0 => h0 (List.length_eq_zero_iff.1 e0))
                have hlb : ((ln : Int) > 0) := by omega
                clear h0 haa
                go_wp2_with fail
                refine (HAT.out _ 5 (by omega) HRw.out).mono ?_
                rintro r w6 ⟨a', c', rfl, _, hb6⟩
                rw [hln]
                have HB6 : Hid (Below wE.heap.size wE w6) := hide (hwr.out.trans (hb6.mono hwr.out.size))
                clear hb6 hln
                go_wp2_with fail
                go_ret
                exact ⟨by rw [HR.out]; rfl, HB1.out.trans ((HBE.out.trans (HB6.out.mono HBE.out.size)).mono HG1.out)⟩
            · by_cases h0 : atL Z 6 (1 - t) = []
              · have HN : Hid (∀ j, j < 3 → atL Z ([4, 5, 6].getD j 0) (1 - t) = []) := hide (fun j hj => by
                  by_cases hjj : j = 2
                  · subst hjj; exact h0
                  · exact haa.out j (by omega))
                have HLN : Hid ((atL Z 6 (1 - t)).length = 0) := hide (by rw [h0]; rfl)
                clear h0 haa
                go_wp2_with fail
                refine (HAT.out _ 6 (by omega) HRw.out).mono ?_
                rintro r w6 ⟨a', c', rfl, _, hb6⟩
                rw [HLN.out]
                have HB6 : Hid (Below wE.heap.size wE w6) := hide (hwr.out.trans (hb6.mono hwr.out.size))
                clear hb6
                go_wp2_with fail
                exact ⟨⟨3, rfl, by omega, HN, HB6⟩, by simp [intOf]⟩
              · have HR : Hid (ct = -1) := hide (by rw [← HCT.out]; exact ct_att (x := 6) (by decide) h0)
                obtain ⟨ln, hln⟩ : ∃ ln, (atL Z 6 (1 - t)).length = ln := ⟨_, rfl⟩
                have hl0 : 0 < ln := by
                  rw [← hln]; exact Nat.pos_of_ne_zero (fun e0 => h0 (List.length_eq_zero_iff.1 e0))
                have hlb : ((ln : Int) > 0) := by omega
                clear h0 haa
                go_wp2_with fail
                refine (HAT.out _ 6 (by omega) HRw.out).mono ?_
                rintro r w6 ⟨a', c', rfl, _, hb6⟩
                rw [hln]
                have HB6 : Hid (Below wE.heap.size wE w6) := hide (hwr.out.trans (hb6.mono hwr.out.size))
                clear hb6 hln
                go_wp2_with fail
                go_ret
                exact ⟨by rw [HR.out]; rfl, HB1.out.trans ((HBE.out.trans (HB6.out.mono HBE.out.size)).mono HG1.out)⟩
            · have HR : Hid (ct = 6) := hide (by
                rw [← HCT.out]
                exact ct_yes HBT.out (by rw [HSD.out]; decide) (fun p hp => by
                  have hh : p = 5 ∨ p = 6 := by simp [cBt] at hp; omega
                  rcases hh with rfl | rfl
                  · exact HZ.out 0 (by omega)
                  · exact HZ.out 1 (by omega)
                  ) (haa.out 0 (by omega)) (haa.out 1 (by omega)) (haa.out 2 (by omega)))
              clear haa
              go_wp2_with fail
              go_ret
              exact ⟨by rw [HR.out]; rfl, HB1.out.trans ((HBE.out.trans (hwr.out.mono HBE.out.size)).mono HG1.out)⟩
    · have hs0 : ((0 : Int) != T) = true := by rw [← HT.out, bne_iff_ne]; omega
      have HR : Hid (ct = -1) := hide (by rw [← HCT.out]; exact ct_side hside (by decide))
      clear hbt hR1 C1 hside
      try rw [hg]
      go_enter Tryd.func57, Tryd.ntmps57
      go_upto_region 1 with fail
      try rw [hg]
      clear hw1
      go_wp2_with fail
      go_ret
      exact ⟨by rw [HR.out]; rfl, HB1.out⟩

set_option maxRecDepth 100000 in
set_option maxHeartbeats 8000000 in
theorem castle_1 (a : Option Addr) (c : Nat) (Z : List Int) (t : Nat) (k e h f : Int) (ht : t ≤ 1) (hk : 0 ≤ k ∧ k ≤ 15) (hz : Pz Z) (w : World) (hR : Rd w a 64 c Z) :
    Calls Tryd.prog 57 #[.agg (chA a 64 c (t : Nat) k e h f), .int .i64 1] w fun r w' => r = .returned (.int .i64 (ctI Z t k 1)) ∧ Below w.heap.size w w' := by
  obtain ⟨g, hg⟩ : ∃ g, w.heap.size = g := ⟨_, rfl⟩
  obtain ⟨T, hT⟩ : ∃ T : Int, ((t : Nat) : Int) = T := ⟨_, rfl⟩
  have HT := hide hT
  obtain ⟨w1, hw1⟩ : ∃ w1, w.alloc (.cells (chA a 64 c T k e h f) 24) = w1 := ⟨_, rfl⟩
  have B1 : Below w.heap.size w w1 := by rw [← hw1]; exact (Below.refl _ w).alloc (Nat.le_refl _) _
  have C1 : Ch w1 g a 64 c T k e h f := by rw [← hw1, ← hg]; exact Ch.new w a 64 c T k e h f
  have s1 : w1.heap.size = g + 1 := by rw [← hw1, ← hg]; simp
  have hbt := bit_zero hk (show 1 < 4 by omega)
  obtain ⟨x0, x1, x2, -, -, -⟩ := C1.cells
  have HB1 : Hid (Below g w w1) := hide (by rw [← hg]; exact B1)
  have HG1 : Hid (g ≤ w1.heap.size) := hide (by omega)
  obtain ⟨ct, hct⟩ : ∃ ct, ctI Z t k 1 = ct := ⟨_, rfl⟩
  have HCT := hide hct
  rw [hT, hct]
  have hR1 := hR.mono B1
  clear B1 hR hT hct
  cases hb : bitB k 1 with
  | false =>
    have hb0 : (bits BinOp.and .i64 (k / 2) 1 == 0) = true := by simpa [hb] using hbt
    have HR : Hid (ct = -1) := hide (by rw [← HCT.out]; exact ct_bit hb)
    clear hbt hR1 C1
    try rw [hg]
    go_enter Tryd.func57, Tryd.ntmps57
    go_upto_region 1 with fail
    try rw [hg]
    clear hw1
    go_wp2_with fail
    go_ret
    exact ⟨by rw [HR.out]; rfl, HB1.out⟩
  | true =>
    have hb0 : (bits BinOp.and .i64 (k / 2) 1 == 0) = false := by simpa [hb] using hbt
    by_cases hside : t = 0
    · have hs0 : ((0 : Int) != T) = false := by rw [← HT.out, hside]; rfl
      have HSD := hide hside
      have HBT := hide hb
      clear hside hbt hb
      obtain ⟨wK, hwK⟩ : ∃ wK, w1.alloc (.cells #[.int .i64 4, .int .i64 4, .int .i64 60, .int .i64 60] 3) = wK := ⟨_, rfl⟩
      have vK : Vb wK (g + 1) 3 [.int .i64 4, .int .i64 4, .int .i64 60, .int .i64 60] := by rw [← hwK, ← s1]; exact Vb.new w1 3 _
      have sK : wK.heap.size = g + 2 := by rw [← hwK]; simp [s1]
      obtain ⟨wA, hwA⟩ : ∃ wA, wK.alloc (.cells #[.int .i64 5, .int .i64 6] 3) = wA := ⟨_, rfl⟩
      have vA : Vb wA (g + 2) 3 [.int .i64 5, .int .i64 6] := by rw [← hwA, ← sK]; exact Vb.new wK 3 _
      have sA : wA.heap.size = g + 3 := by rw [← hwA]; simp [sK]
      obtain ⟨wB, hwB⟩ : ∃ wB, wA.alloc (.cells #[.int .i64 1, .int .i64 2, .int .i64 3] 3) = wB := ⟨_, rfl⟩
      have vB : Vb wB (g + 3) 3 [.int .i64 1, .int .i64 2, .int .i64 3] := by rw [← hwB, ← sA]; exact Vb.new wA 3 _
      have sB : wB.heap.size = g + 4 := by rw [← hwB]; simp [sA]
      obtain ⟨wC, hwC⟩ : ∃ wC, wB.alloc (.cells #[.int .i64 61, .int .i64 62] 3) = wC := ⟨_, rfl⟩
      have vC : Vb wC (g + 4) 3 [.int .i64 61, .int .i64 62] := by rw [← hwC, ← sB]; exact Vb.new wB 3 _
      have sC : wC.heap.size = g + 5 := by rw [← hwC]; simp [sB]
      obtain ⟨wD, hwD⟩ : ∃ wD, wC.alloc (.cells #[.int .i64 57, .int .i64 58, .int .i64 59] 3) = wD := ⟨_, rfl⟩
      have vD : Vb wD (g + 5) 3 [.int .i64 57, .int .i64 58, .int .i64 59] := by rw [← hwD, ← sC]; exact Vb.new wC 3 _
      have sD : wD.heap.size = g + 6 := by rw [← hwD]; simp [sC]
      obtain ⟨wE, hwE⟩ : ∃ wE, wD.alloc (.cells #[.slice (some ⟨g + 2, 0, none⟩) 2 2, .slice (some ⟨g + 3, 0, none⟩) 3 3, .slice (some ⟨g + 4, 0, none⟩) 2 2, .slice (some ⟨g + 5, 0, none⟩) 3 3] 22) = wE := ⟨_, rfl⟩
      have vE : Vb wE (g + 6) 22 [.slice (some ⟨g + 2, 0, none⟩) 2 2, .slice (some ⟨g + 3, 0, none⟩) 3 3, .slice (some ⟨g + 4, 0, none⟩) 2 2, .slice (some ⟨g + 5, 0, none⟩) 3 3] := by rw [← hwE, ← sD]; exact Vb.new wD 22 _
      have sE : wE.heap.size = g + 7 := by rw [← hwE]; simp [sD]
      have bK : Below w1.heap.size w1 wK := by rw [← hwK]; exact (Below.refl _ _).alloc (Nat.le_refl _) _
      have bA : Below wK.heap.size wK wA := by rw [← hwA]; exact (Below.refl _ _).alloc (Nat.le_refl _) _
      have bB : Below wA.heap.size wA wB := by rw [← hwB]; exact (Below.refl _ _).alloc (Nat.le_refl _) _
      have bC : Below wB.heap.size wB wC := by rw [← hwC]; exact (Below.refl _ _).alloc (Nat.le_refl _) _
      have bD : Below wC.heap.size wC wD := by rw [← hwD]; exact (Below.refl _ _).alloc (Nat.le_refl _) _
      have bE : Below wD.heap.size wD wE := by rw [← hwE]; exact (Below.refl _ _).alloc (Nat.le_refl _) _
      have b1E : Below w1.heap.size w1 wE := ((((bK.trans (bA.mono (by omega))).trans (bB.mono (by omega))).trans (bC.mono (by omega))).trans (bD.mono (by omega))).trans (bE.mono (by omega))
      have vL : Vb wE (g + 3) 3 [.int .i64 1, .int .i64 2, .int .i64 3] := (((vB.mono bC).mono bD).mono bE)
      have cK := vK.cell (i := 1) rfl
      have cE := vE.cell (i := 1) rfl
      have HBE := hide b1E
      have HVL := hide vL
      have HCE := hide (C1.below b1E (by omega))
      have HRE := hide (hR1.mono b1E)
      have HSE := hide sE
      clear vK vA vB vC vD vE bK bA bB bC bD bE b1E vL hR1 C1
      try rw [hg]
      go_enter Tryd.func57, Tryd.ntmps57
      go_upto_region 1 with fail
      try rw [hg]
      clear hw1
      go_upto_region 5 with fail
      clear hwK hwA hwB hwC hwD hwE cK cE sK sA sB sC sD sE s1 x0 x1 x2
      have hcm := HRE.out.max
      unfold maxLen at hcm
      have hcc := HRE.out.cap
      obtain ⟨rb, ro, rfl, hcl⟩ := HRE.out.cells (by omega)
      have HC := hide hcl
      have HAT : Hid (∀ W p, p < 64 → Rd W (some ⟨rb, ro, none⟩) 64 c Z → Calls Tryd.prog 27 #[.slice (some ⟨rb, ro, none⟩) 64 c, .int .i64 (p : Nat), .int .i64 ((1 - t : Nat) : Int)] W fun e w' => ∃ a' c', e = .returned (.slice a' (atL Z p (1 - t)).length c') ∧ Rd w' a' (atL Z p (1 - t)).length c' (toI (atL Z p (1 - t))) ∧ Below W.heap.size W w') := hide (fun W p hp hr => AttackersOf_any _ c Z p (1 - t) hp hz W hr)
      have htm : (1 : Int) - T = ((1 - t : Nat) : Int) := by rw [← HT.out]; omega
      have HTM := hide htm
      obtain ⟨y0, y1, -, -, -, -⟩ := HCE.out.cells
      clear hcl htm hz
      go_wp2_with fail
      go_loopw [7] (fun v wr => ∃ i : Nat, v = .int .i64 i ∧ i ≤ 3 ∧ Hid (∀ j, j < i → zg Z ([1, 2, 3].getD j 0) = 0) ∧ Hid (Below wE.heap.size wE wr)) (fun v _ => 3 - (intOf v).toNat)
      case atStart => exact ⟨0, rfl, by omega, hide (fun j hj => by omega), hide (Below.refl _ _)⟩
      case round =>
        obtain ⟨i, rfl, hi, hzz, hwr⟩ := hrel
        have HRw := hide (HRE.out.mono hwr.out)
        have HCw : Hid (Ch wr g (some ⟨rb, ro, none⟩) 64 c T k e h f) := hide (HCE.out.below hwr.out (by have := HSE.out; omega))
        have HVw := hide (HVL.out.mono hwr.out)
        have HCz : Hid (∀ i, i < 64 → wr.cell? ⟨rb, ro + i, none⟩ = some (.int .i64 (Z.getD i 0))) := hide (fun i hi => (hwr.out.cell (p := ⟨rb, ro + i, none⟩) (World.block_lt_of_cell? wE _ (HC.out i hi))).trans (HC.out i hi))
        clear y0 y1
        obtain ⟨y0, y1, -, -, -, -⟩ := HCw.out.cells
        rcases (show i = 0 ∨ i = 1 ∨ i = 2 ∨ i = 3 by omega) with rfl | rfl | rfl | rfl
        · have l0 := HVw.out.cell (i := 0) rfl
          have z0 := HCz.out 1 (by omega)
          by_cases h0 : zg Z 1 = 0
          · have hz0 : (zg Z 1 != 0) = false := by simp [h0]
            obtain ⟨zv, hzv⟩ : ∃ zv, Z.getD 1 0 = zv := ⟨_, rfl⟩
            have hzv' : zg Z 1 = zv := hzv
            rw [hzv] at z0
            rw [hzv'] at hz0
            have HN : Hid (∀ j, j < 1 → zg Z ([1, 2, 3].getD j 0) = 0) := hide (fun j hj => by
              by_cases hjj : j = 0
              · subst hjj; exact h0
              · exact hzz.out j (by omega))
            clear h0 hzv hzv' hzz
            go_upto_region 8 with fail
            go_quiet (fail)
            go_wp2_with fail
            exact ⟨⟨1, rfl, by omega, HN, hide (hwr.out.trans (by first | exact Below.refl _ _ | exact drewN_below _ _ _))⟩, by simp [intOf]⟩
          · have hz0 : (zg Z 1 != 0) = true := by simp [h0]
            obtain ⟨zv, hzv⟩ : ∃ zv, Z.getD 1 0 = zv := ⟨_, rfl⟩
            have hzv' : zg Z 1 = zv := hzv
            rw [hzv] at z0
            rw [hzv'] at hz0
            have HR : Hid (ct = -1) := hide (by rw [← HCT.out]; exact ct_full (x := 1) (by decide) h0)
            clear h0 hzv hzv' hzz
            go_upto_region 8 with fail
            go_quiet (fail)
            go_wp2_with fail
            go_ret
            exact ⟨by rw [HR.out]; rfl, HB1.out.trans ((HBE.out.trans ((hwr.out.trans (by first | exact Below.refl _ _ | exact drewN_below _ _ _)).mono HBE.out.size)).mono HG1.out)⟩
        · have l0 := HVw.out.cell (i := 1) rfl
          have z0 := HCz.out 2 (by omega)
          by_cases h0 : zg Z 2 = 0
          · have hz0 : (zg Z 2 != 0) = false := by simp [h0]
            obtain ⟨zv, hzv⟩ : ∃ zv, Z.getD 2 0 = zv := ⟨_, rfl⟩
            have hzv' : zg Z 2 = zv := hzv
            rw [hzv] at z0
            rw [hzv'] at hz0
            have HN : Hid (∀ j, j < 2 → zg Z ([1, 2, 3].getD j 0) = 0) := hide (fun j hj => by
              by_cases hjj : j = 1
              · subst hjj; exact h0
              · exact hzz.out j (by omega))
            clear h0 hzv hzv' hzz
            go_upto_region 8 with fail
            go_quiet (fail)
            go_wp2_with fail
            exact ⟨⟨2, rfl, by omega, HN, hide (hwr.out.trans (by first | exact Below.refl _ _ | exact drewN_below _ _ _))⟩, by simp [intOf]⟩
          · have hz0 : (zg Z 2 != 0) = true := by simp [h0]
            obtain ⟨zv, hzv⟩ : ∃ zv, Z.getD 2 0 = zv := ⟨_, rfl⟩
            have hzv' : zg Z 2 = zv := hzv
            rw [hzv] at z0
            rw [hzv'] at hz0
            have HR : Hid (ct = -1) := hide (by rw [← HCT.out]; exact ct_full (x := 2) (by decide) h0)
            clear h0 hzv hzv' hzz
            go_upto_region 8 with fail
            go_quiet (fail)
            go_wp2_with fail
            go_ret
            exact ⟨by rw [HR.out]; rfl, HB1.out.trans ((HBE.out.trans ((hwr.out.trans (by first | exact Below.refl _ _ | exact drewN_below _ _ _)).mono HBE.out.size)).mono HG1.out)⟩
        · have l0 := HVw.out.cell (i := 2) rfl
          have z0 := HCz.out 3 (by omega)
          by_cases h0 : zg Z 3 = 0
          · have hz0 : (zg Z 3 != 0) = false := by simp [h0]
            obtain ⟨zv, hzv⟩ : ∃ zv, Z.getD 3 0 = zv := ⟨_, rfl⟩
            have hzv' : zg Z 3 = zv := hzv
            rw [hzv] at z0
            rw [hzv'] at hz0
            have HN : Hid (∀ j, j < 3 → zg Z ([1, 2, 3].getD j 0) = 0) := hide (fun j hj => by
              by_cases hjj : j = 2
              · subst hjj; exact h0
              · exact hzz.out j (by omega))
            clear h0 hzv hzv' hzz
            go_upto_region 8 with fail
            go_quiet (fail)
            go_wp2_with fail
            exact ⟨⟨3, rfl, by omega, HN, hide (hwr.out.trans (by first | exact Below.refl _ _ | exact drewN_below _ _ _))⟩, by simp [intOf]⟩
          · have hz0 : (zg Z 3 != 0) = true := by simp [h0]
            obtain ⟨zv, hzv⟩ : ∃ zv, Z.getD 3 0 = zv := ⟨_, rfl⟩
            have hzv' : zg Z 3 = zv := hzv
            rw [hzv] at z0
            rw [hzv'] at hz0
            have HR : Hid (ct = -1) := hide (by rw [← HCT.out]; exact ct_full (x := 3) (by decide) h0)
            clear h0 hzv hzv' hzz
            go_upto_region 8 with fail
            go_quiet (fail)
            go_wp2_with fail
            go_ret
            exact ⟨by rw [HR.out]; rfl, HB1.out.trans ((HBE.out.trans ((hwr.out.trans (by first | exact Below.refl _ _ | exact drewN_below _ _ _)).mono HBE.out.size)).mono HG1.out)⟩
        · have HZ := hzz
          clear hzz
          rw [show ((3 : Nat) : Int) = (3 : Int) from rfl]
          obtain ⟨wF, hwF⟩ : ∃ wF, wr.alloc (.cells #[.int .i64 1, .int .i64 (-1), .int .i64 1, .int .i64 (-1)] 3) = wF := ⟨_, rfl⟩
          have vF : Vb wF wr.heap.size 3 [.int .i64 1, .int .i64 (-1), .int .i64 1, .int .i64 (-1)] := by rw [← hwF]; exact Vb.new wr 3 _
          have bF : Below wr.heap.size wr wF := by rw [← hwF]; exact (Below.refl _ _).alloc (Nat.le_refl _) _
          have cF := vF.cell (i := 1) rfl
          have HBF : Hid (Below wE.heap.size wE wF) := hide (hwr.out.trans (bF.mono hwr.out.size))
          clear vF bF
          go_upto_region 11 with fail
          clear hwF cF HRw HCw HVw HCz
          clear y0 y1
          go_wp2_with fail
          go_loopw [9] (fun v wr => ∃ i : Nat, v = .int .i64 i ∧ i ≤ 3 ∧ Hid (∀ j, j < i → atL Z ([4, 3, 2].getD j 0) (1 - t) = []) ∧ Hid (Below wE.heap.size wE wr)) (fun v _ => 3 - (intOf v).toNat)
          case atStart => exact ⟨0, rfl, by omega, hide (fun j hj => by omega), HBF⟩
          case round =>
            clear hwr
            obtain ⟨i, rfl, hi, haa, hwr⟩ := hrel
            have HRw := hide (HRE.out.mono hwr.out)
            have HCw : Hid (Ch wr g (some ⟨rb, ro, none⟩) 64 c T k e h f) := hide (HCE.out.below hwr.out (by have := HSE.out; omega))
            obtain ⟨y0, y1, -, -, -, -⟩ := HCw.out.cells
            have htm := HTM.out
            have htw : IntKind.i64.wrap (1 - T) = ((1 - t : Nat) : Int) := by rw [htm, IntKind.wrap_i64]; omega
            rcases (show i = 0 ∨ i = 1 ∨ i = 2 ∨ i = 3 by omega) with rfl | rfl | rfl | rfl
            · by_cases h0 : atL Z 4 (1 - t) = []
              · have HN : Hid (∀ j, j < 1 → atL Z ([4, 3, 2].getD j 0) (1 - t) = []) := hide (fun j hj => by
                  by_cases hjj : j = 0
                  · subst hjj; exact h0
                  · exact haa.out j (by omega))
                have HLN : Hid ((atL Z 4 (1 - t)).length = 0) := hide (by rw [h0]; rfl)
                clear h0 haa
                go_wp2_with fail
                refine (HAT.out _ 4 (by omega) HRw.out).mono ?_
                rintro r w6 ⟨a', c', rfl, _, hb6⟩
                rw [HLN.out]
                have HB6 : Hid (Below wE.heap.size wE w6) := hide (hwr.out.trans (hb6.mono hwr.out.size))
                clear hb6
                go_wp2_with fail
                exact ⟨⟨1, rfl, by omega, HN, HB6⟩, by simp [intOf]⟩
              · have HR : Hid (ct = -1) := hide (by rw [← HCT.out]; exact ct_att (x := 4) (by decide) h0)
                obtain ⟨ln, hln⟩ : ∃ ln, (atL Z 4 (1 - t)).length = ln := ⟨_, rfl⟩
                have hl0 : 0 < ln := by
                  rw [← hln]; exact Nat.pos_of_ne_zero (fun e0 => h0 (List.length_eq_zero_iff.1 e0))
                have hlb : ((ln : Int) > 0) := by omega
                clear h0 haa
                go_wp2_with fail
                refine (HAT.out _ 4 (by omega) HRw.out).mono ?_
                rintro r w6 ⟨a', c', rfl, _, hb6⟩
                rw [hln]
                have HB6 : Hid (Below wE.heap.size wE w6) := hide (hwr.out.trans (hb6.mono hwr.out.size))
                clear hb6 hln
                go_wp2_with fail
                go_ret
                exact ⟨by rw [HR.out]; rfl, HB1.out.trans ((HBE.out.trans (HB6.out.mono HBE.out.size)).mono HG1.out)⟩
            · by_cases h0 : atL Z 3 (1 - t) = []
              · have HN : Hid (∀ j, j < 2 → atL Z ([4, 3, 2].getD j 0) (1 - t) = []) := hide (fun j hj => by
                  by_cases hjj : j = 1
                  · subst hjj; exact h0
                  · exact haa.out j (by omega))
                have HLN : Hid ((atL Z 3 (1 - t)).length = 0) := hide (by rw [h0]; rfl)
                clear h0 haa
                go_wp2_with fail
                refine (HAT.out _ 3 (by omega) HRw.out).mono ?_
                rintro r w6 ⟨a', c', rfl, _, hb6⟩
                rw [HLN.out]
                have HB6 : Hid (Below wE.heap.size wE w6) := hide (hwr.out.trans (hb6.mono hwr.out.size))
                clear hb6
                go_wp2_with fail
                exact ⟨⟨2, rfl, by omega, HN, HB6⟩, by simp [intOf]⟩
              · have HR : Hid (ct = -1) := hide (by rw [← HCT.out]; exact ct_att (x := 3) (by decide) h0)
                obtain ⟨ln, hln⟩ : ∃ ln, (atL Z 3 (1 - t)).length = ln := ⟨_, rfl⟩
                have hl0 : 0 < ln := by
                  rw [← hln]; exact Nat.pos_of_ne_zero (fun e0 => h0 (List.length_eq_zero_iff.1 e0))
                have hlb : ((ln : Int) > 0) := by omega
                clear h0 haa
                go_wp2_with fail
                refine (HAT.out _ 3 (by omega) HRw.out).mono ?_
                rintro r w6 ⟨a', c', rfl, _, hb6⟩
                rw [hln]
                have HB6 : Hid (Below wE.heap.size wE w6) := hide (hwr.out.trans (hb6.mono hwr.out.size))
                clear hb6 hln
                go_wp2_with fail
                go_ret
                exact ⟨by rw [HR.out]; rfl, HB1.out.trans ((HBE.out.trans (HB6.out.mono HBE.out.size)).mono HG1.out)⟩
            · by_cases h0 : atL Z 2 (1 - t) = []
              · have HN : Hid (∀ j, j < 3 → atL Z ([4, 3, 2].getD j 0) (1 - t) = []) := hide (fun j hj => by
                  by_cases hjj : j = 2
                  · subst hjj; exact h0
                  · exact haa.out j (by omega))
                have HLN : Hid ((atL Z 2 (1 - t)).length = 0) := hide (by rw [h0]; rfl)
                clear h0 haa
                go_wp2_with fail
                refine (HAT.out _ 2 (by omega) HRw.out).mono ?_
                rintro r w6 ⟨a', c', rfl, _, hb6⟩
                rw [HLN.out]
                have HB6 : Hid (Below wE.heap.size wE w6) := hide (hwr.out.trans (hb6.mono hwr.out.size))
                clear hb6
                go_wp2_with fail
                exact ⟨⟨3, rfl, by omega, HN, HB6⟩, by simp [intOf]⟩
              · have HR : Hid (ct = -1) := hide (by rw [← HCT.out]; exact ct_att (x := 2) (by decide) h0)
                obtain ⟨ln, hln⟩ : ∃ ln, (atL Z 2 (1 - t)).length = ln := ⟨_, rfl⟩
                have hl0 : 0 < ln := by
                  rw [← hln]; exact Nat.pos_of_ne_zero (fun e0 => h0 (List.length_eq_zero_iff.1 e0))
                have hlb : ((ln : Int) > 0) := by omega
                clear h0 haa
                go_wp2_with fail
                refine (HAT.out _ 2 (by omega) HRw.out).mono ?_
                rintro r w6 ⟨a', c', rfl, _, hb6⟩
                rw [hln]
                have HB6 : Hid (Below wE.heap.size wE w6) := hide (hwr.out.trans (hb6.mono hwr.out.size))
                clear hb6 hln
                go_wp2_with fail
                go_ret
                exact ⟨by rw [HR.out]; rfl, HB1.out.trans ((HBE.out.trans (HB6.out.mono HBE.out.size)).mono HG1.out)⟩
            · have HR : Hid (ct = 2) := hide (by
                rw [← HCT.out]
                exact ct_yes HBT.out (by rw [HSD.out]; decide) (fun p hp => by
                  have hh : p = 1 ∨ p = 2 ∨ p = 3 := by simp [cBt] at hp; omega
                  rcases hh with rfl | rfl | rfl
                  · exact HZ.out 0 (by omega)
                  · exact HZ.out 1 (by omega)
                  · exact HZ.out 2 (by omega)
                  ) (haa.out 0 (by omega)) (haa.out 1 (by omega)) (haa.out 2 (by omega)))
              clear haa
              go_wp2_with fail
              go_ret
              exact ⟨by rw [HR.out]; rfl, HB1.out.trans ((HBE.out.trans (hwr.out.mono HBE.out.size)).mono HG1.out)⟩
    · have hs0 : ((0 : Int) != T) = true := by rw [← HT.out, bne_iff_ne]; omega
      have HR : Hid (ct = -1) := hide (by rw [← HCT.out]; exact ct_side hside (by decide))
      clear hbt hR1 C1 hside
      try rw [hg]
      go_enter Tryd.func57, Tryd.ntmps57
      go_upto_region 1 with fail
      try rw [hg]
      clear hw1
      go_wp2_with fail
      go_ret
      exact ⟨by rw [HR.out]; rfl, HB1.out⟩

set_option maxRecDepth 100000 in
set_option maxHeartbeats 8000000 in
theorem castle_2 (a : Option Addr) (c : Nat) (Z : List Int) (t : Nat) (k e h f : Int) (ht : t ≤ 1) (hk : 0 ≤ k ∧ k ≤ 15) (hz : Pz Z) (w : World) (hR : Rd w a 64 c Z) :
    Calls Tryd.prog 57 #[.agg (chA a 64 c (t : Nat) k e h f), .int .i64 2] w fun r w' => r = .returned (.int .i64 (ctI Z t k 2)) ∧ Below w.heap.size w w' := by
  obtain ⟨g, hg⟩ : ∃ g, w.heap.size = g := ⟨_, rfl⟩
  obtain ⟨T, hT⟩ : ∃ T : Int, ((t : Nat) : Int) = T := ⟨_, rfl⟩
  have HT := hide hT
  obtain ⟨w1, hw1⟩ : ∃ w1, w.alloc (.cells (chA a 64 c T k e h f) 24) = w1 := ⟨_, rfl⟩
  have B1 : Below w.heap.size w w1 := by rw [← hw1]; exact (Below.refl _ w).alloc (Nat.le_refl _) _
  have C1 : Ch w1 g a 64 c T k e h f := by rw [← hw1, ← hg]; exact Ch.new w a 64 c T k e h f
  have s1 : w1.heap.size = g + 1 := by rw [← hw1, ← hg]; simp
  have hbt := bit_zero hk (show 2 < 4 by omega)
  obtain ⟨x0, x1, x2, -, -, -⟩ := C1.cells
  have HB1 : Hid (Below g w w1) := hide (by rw [← hg]; exact B1)
  have HG1 : Hid (g ≤ w1.heap.size) := hide (by omega)
  obtain ⟨ct, hct⟩ : ∃ ct, ctI Z t k 2 = ct := ⟨_, rfl⟩
  have HCT := hide hct
  rw [hT, hct]
  have hR1 := hR.mono B1
  clear B1 hR hT hct
  cases hb : bitB k 2 with
  | false =>
    have hb0 : (bits BinOp.and .i64 (k / 4) 1 == 0) = true := by simpa [hb] using hbt
    have HR : Hid (ct = -1) := hide (by rw [← HCT.out]; exact ct_bit hb)
    clear hbt hR1 C1
    try rw [hg]
    go_enter Tryd.func57, Tryd.ntmps57
    go_upto_region 1 with fail
    try rw [hg]
    clear hw1
    go_wp2_with fail
    go_ret
    exact ⟨by rw [HR.out]; rfl, HB1.out⟩
  | true =>
    have hb0 : (bits BinOp.and .i64 (k / 4) 1 == 0) = false := by simpa [hb] using hbt
    by_cases hside : t = 1
    · have hs0 : ((1 : Int) != T) = false := by rw [← HT.out, hside]; rfl
      have HSD := hide hside
      have HBT := hide hb
      clear hside hbt hb
      obtain ⟨wK, hwK⟩ : ∃ wK, w1.alloc (.cells #[.int .i64 4, .int .i64 4, .int .i64 60, .int .i64 60] 3) = wK := ⟨_, rfl⟩
      have vK : Vb wK (g + 1) 3 [.int .i64 4, .int .i64 4, .int .i64 60, .int .i64 60] := by rw [← hwK, ← s1]; exact Vb.new w1 3 _
      have sK : wK.heap.size = g + 2 := by rw [← hwK]; simp [s1]
      obtain ⟨wA, hwA⟩ : ∃ wA, wK.alloc (.cells #[.int .i64 5, .int .i64 6] 3) = wA := ⟨_, rfl⟩
      have vA : Vb wA (g + 2) 3 [.int .i64 5, .int .i64 6] := by rw [← hwA, ← sK]; exact Vb.new wK 3 _
      have sA : wA.heap.size = g + 3 := by rw [← hwA]; simp [sK]
      obtain ⟨wB, hwB⟩ : ∃ wB, wA.alloc (.cells #[.int .i64 1, .int .i64 2, .int .i64 3] 3) = wB := ⟨_, rfl⟩
      have vB : Vb wB (g + 3) 3 [.int .i64 1, .int .i64 2, .int .i64 3] := by rw [← hwB, ← sA]; exact Vb.new wA 3 _
      have sB : wB.heap.size = g + 4 := by rw [← hwB]; simp [sA]
      obtain ⟨wC, hwC⟩ : ∃ wC, wB.alloc (.cells #[.int .i64 61, .int .i64 62] 3) = wC := ⟨_, rfl⟩
      have vC : Vb wC (g + 4) 3 [.int .i64 61, .int .i64 62] := by rw [← hwC, ← sB]; exact Vb.new wB 3 _
      have sC : wC.heap.size = g + 5 := by rw [← hwC]; simp [sB]
      obtain ⟨wD, hwD⟩ : ∃ wD, wC.alloc (.cells #[.int .i64 57, .int .i64 58, .int .i64 59] 3) = wD := ⟨_, rfl⟩
      have vD : Vb wD (g + 5) 3 [.int .i64 57, .int .i64 58, .int .i64 59] := by rw [← hwD, ← sC]; exact Vb.new wC 3 _
      have sD : wD.heap.size = g + 6 := by rw [← hwD]; simp [sC]
      obtain ⟨wE, hwE⟩ : ∃ wE, wD.alloc (.cells #[.slice (some ⟨g + 2, 0, none⟩) 2 2, .slice (some ⟨g + 3, 0, none⟩) 3 3, .slice (some ⟨g + 4, 0, none⟩) 2 2, .slice (some ⟨g + 5, 0, none⟩) 3 3] 22) = wE := ⟨_, rfl⟩
      have vE : Vb wE (g + 6) 22 [.slice (some ⟨g + 2, 0, none⟩) 2 2, .slice (some ⟨g + 3, 0, none⟩) 3 3, .slice (some ⟨g + 4, 0, none⟩) 2 2, .slice (some ⟨g + 5, 0, none⟩) 3 3] := by rw [← hwE, ← sD]; exact Vb.new wD 22 _
      have sE : wE.heap.size = g + 7 := by rw [← hwE]; simp [sD]
      have bK : Below w1.heap.size w1 wK := by rw [← hwK]; exact (Below.refl _ _).alloc (Nat.le_refl _) _
      have bA : Below wK.heap.size wK wA := by rw [← hwA]; exact (Below.refl _ _).alloc (Nat.le_refl _) _
      have bB : Below wA.heap.size wA wB := by rw [← hwB]; exact (Below.refl _ _).alloc (Nat.le_refl _) _
      have bC : Below wB.heap.size wB wC := by rw [← hwC]; exact (Below.refl _ _).alloc (Nat.le_refl _) _
      have bD : Below wC.heap.size wC wD := by rw [← hwD]; exact (Below.refl _ _).alloc (Nat.le_refl _) _
      have bE : Below wD.heap.size wD wE := by rw [← hwE]; exact (Below.refl _ _).alloc (Nat.le_refl _) _
      have b1E : Below w1.heap.size w1 wE := ((((bK.trans (bA.mono (by omega))).trans (bB.mono (by omega))).trans (bC.mono (by omega))).trans (bD.mono (by omega))).trans (bE.mono (by omega))
      have vL : Vb wE (g + 4) 3 [.int .i64 61, .int .i64 62] := ((vC.mono bD).mono bE)
      have cK := vK.cell (i := 2) rfl
      have cE := vE.cell (i := 2) rfl
      have HBE := hide b1E
      have HVL := hide vL
      have HCE := hide (C1.below b1E (by omega))
      have HRE := hide (hR1.mono b1E)
      have HSE := hide sE
      clear vK vA vB vC vD vE bK bA bB bC bD bE b1E vL hR1 C1
      try rw [hg]
      go_enter Tryd.func57, Tryd.ntmps57
      go_upto_region 1 with fail
      try rw [hg]
      clear hw1
      go_upto_region 5 with fail
      clear hwK hwA hwB hwC hwD hwE cK cE sK sA sB sC sD sE s1 x0 x1 x2
      have hcm := HRE.out.max
      unfold maxLen at hcm
      have hcc := HRE.out.cap
      obtain ⟨rb, ro, rfl, hcl⟩ := HRE.out.cells (by omega)
      have HC := hide hcl
      have HAT : Hid (∀ W p, p < 64 → Rd W (some ⟨rb, ro, none⟩) 64 c Z → Calls Tryd.prog 27 #[.slice (some ⟨rb, ro, none⟩) 64 c, .int .i64 (p : Nat), .int .i64 ((1 - t : Nat) : Int)] W fun e w' => ∃ a' c', e = .returned (.slice a' (atL Z p (1 - t)).length c') ∧ Rd w' a' (atL Z p (1 - t)).length c' (toI (atL Z p (1 - t))) ∧ Below W.heap.size W w') := hide (fun W p hp hr => AttackersOf_any _ c Z p (1 - t) hp hz W hr)
      have htm : (1 : Int) - T = ((1 - t : Nat) : Int) := by rw [← HT.out]; omega
      have HTM := hide htm
      obtain ⟨y0, y1, -, -, -, -⟩ := HCE.out.cells
      clear hcl htm hz
      go_wp2_with fail
      go_loopw [7] (fun v wr => ∃ i : Nat, v = .int .i64 i ∧ i ≤ 2 ∧ Hid (∀ j, j < i → zg Z ([61, 62].getD j 0) = 0) ∧ Hid (Below wE.heap.size wE wr)) (fun v _ => 2 - (intOf v).toNat)
      case atStart => exact ⟨0, rfl, by omega, hide (fun j hj => by omega), hide (Below.refl _ _)⟩
      case round =>
        obtain ⟨i, rfl, hi, hzz, hwr⟩ := hrel
        have HRw := hide (HRE.out.mono hwr.out)
        have HCw : Hid (Ch wr g (some ⟨rb, ro, none⟩) 64 c T k e h f) := hide (HCE.out.below hwr.out (by have := HSE.out; omega))
        have HVw := hide (HVL.out.mono hwr.out)
        have HCz : Hid (∀ i, i < 64 → wr.cell? ⟨rb, ro + i, none⟩ = some (.int .i64 (Z.getD i 0))) := hide (fun i hi => (hwr.out.cell (p := ⟨rb, ro + i, none⟩) (World.block_lt_of_cell? wE _ (HC.out i hi))).trans (HC.out i hi))
        clear y0 y1
        obtain ⟨y0, y1, -, -, -, -⟩ := HCw.out.cells
        rcases (show i = 0 ∨ i = 1 ∨ i = 2 by omega) with rfl | rfl | rfl
        · have l0 := HVw.out.cell (i := 0) rfl
          have z0 := HCz.out 61 (by omega)
          by_cases h0 : zg Z 61 = 0
          · have hz0 : (zg Z 61 != 0) = false := by simp [h0]
            obtain ⟨zv, hzv⟩ : ∃ zv, Z.getD 61 0 = zv := ⟨_, rfl⟩
            have hzv' : zg Z 61 = zv := hzv
            rw [hzv] at z0
            rw [hzv'] at hz0
            have HN : Hid (∀ j, j < 1 → zg Z ([61, 62].getD j 0) = 0) := hide (fun j hj => by
              by_cases hjj : j = 0
              · subst hjj; exact h0
              · exact hzz.out j (by omega))
            clear h0 hzv hzv' hzz
            go_upto_region 8 with fail
            go_quiet (fail)
            go_wp2_with fail
            exact ⟨⟨1, rfl, by omega, HN, hide (hwr.out.trans (by first | exact Below.refl _ _ | exact drewN_below _ _ _))⟩, by simp [intOf]⟩
          · have hz0 : (zg Z 61 != 0) = true := by simp [h0]
            obtain ⟨zv, hzv⟩ : ∃ zv, Z.getD 61 0 = zv := ⟨_, rfl⟩
            have hzv' : zg Z 61 = zv := hzv
            rw [hzv] at z0
            rw [hzv'] at hz0
            have HR : Hid (ct = -1) := hide (by rw [← HCT.out]; exact ct_full (x := 61) (by decide) h0)
            clear h0 hzv hzv' hzz
            go_upto_region 8 with fail
            go_quiet (fail)
            go_wp2_with fail
            go_ret
            exact ⟨by rw [HR.out]; rfl, HB1.out.trans ((HBE.out.trans ((hwr.out.trans (by first | exact Below.refl _ _ | exact drewN_below _ _ _)).mono HBE.out.size)).mono HG1.out)⟩
        · have l0 := HVw.out.cell (i := 1) rfl
          have z0 := HCz.out 62 (by omega)
          by_cases h0 : zg Z 62 = 0
          · have hz0 : (zg Z 62 != 0) = false := by simp [h0]
            obtain ⟨zv, hzv⟩ : ∃ zv, Z.getD 62 0 = zv := ⟨_, rfl⟩
            have hzv' : zg Z 62 = zv := hzv
            rw [hzv] at z0
            rw [hzv'] at hz0
            have HN : Hid (∀ j, j < 2 → zg Z ([61, 62].getD j 0) = 0) := hide (fun j hj => by
              by_cases hjj : j = 1
              · subst hjj; exact h0
              · exact hzz.out j (by omega))
            clear h0 hzv hzv' hzz
            go_upto_region 8 with fail
            go_quiet (fail)
            go_wp2_with fail
            exact ⟨⟨2, rfl, by omega, HN, hide (hwr.out.trans (by first | exact Below.refl _ _ | exact drewN_below _ _ _))⟩, by simp [intOf]⟩
          · have hz0 : (zg Z 62 != 0) = true := by simp [h0]
            obtain ⟨zv, hzv⟩ : ∃ zv, Z.getD 62 0 = zv := ⟨_, rfl⟩
            have hzv' : zg Z 62 = zv := hzv
            rw [hzv] at z0
            rw [hzv'] at hz0
            have HR : Hid (ct = -1) := hide (by rw [← HCT.out]; exact ct_full (x := 62) (by decide) h0)
            clear h0 hzv hzv' hzz
            go_upto_region 8 with fail
            go_quiet (fail)
            go_wp2_with fail
            go_ret
            exact ⟨by rw [HR.out]; rfl, HB1.out.trans ((HBE.out.trans ((hwr.out.trans (by first | exact Below.refl _ _ | exact drewN_below _ _ _)).mono HBE.out.size)).mono HG1.out)⟩
        · have HZ := hzz
          clear hzz
          rw [show ((2 : Nat) : Int) = (2 : Int) from rfl]
          obtain ⟨wF, hwF⟩ : ∃ wF, wr.alloc (.cells #[.int .i64 1, .int .i64 (-1), .int .i64 1, .int .i64 (-1)] 3) = wF := ⟨_, rfl⟩
          have vF : Vb wF wr.heap.size 3 [.int .i64 1, .int .i64 (-1), .int .i64 1, .int .i64 (-1)] := by rw [← hwF]; exact Vb.new wr 3 _
          have bF : Below wr.heap.size wr wF := by rw [← hwF]; exact (Below.refl _ _).alloc (Nat.le_refl _) _
          have cF := vF.cell (i := 2) rfl
          have HBF : Hid (Below wE.heap.size wE wF) := hide (hwr.out.trans (bF.mono hwr.out.size))
          clear vF bF
          go_upto_region 11 with fail
          clear hwF cF HRw HCw HVw HCz
          clear y0 y1
          go_wp2_with fail
          go_loopw [9] (fun v wr => ∃ i : Nat, v = .int .i64 i ∧ i ≤ 3 ∧ Hid (∀ j, j < i → atL Z ([60, 61, 62].getD j 0) (1 - t) = []) ∧ Hid (Below wE.heap.size wE wr)) (fun v _ => 3 - (intOf v).toNat)
          case atStart => exact ⟨0, rfl, by omega, hide (fun j hj => by omega), HBF⟩
          case round =>
            clear hwr
            obtain ⟨i, rfl, hi, haa, hwr⟩ := hrel
            have HRw := hide (HRE.out.mono hwr.out)
            have HCw : Hid (Ch wr g (some ⟨rb, ro, none⟩) 64 c T k e h f) := hide (HCE.out.below hwr.out (by have := HSE.out; omega))
            obtain ⟨y0, y1, -, -, -, -⟩ := HCw.out.cells
            have htm := HTM.out
            have htw : IntKind.i64.wrap (1 - T) = ((1 - t : Nat) : Int) := by rw [htm, IntKind.wrap_i64]; omega
            rcases (show i = 0 ∨ i = 1 ∨ i = 2 ∨ i = 3 by omega) with rfl | rfl | rfl | rfl
            · by_cases h0 : atL Z 60 (1 - t) = []
              · have HN : Hid (∀ j, j < 1 → atL Z ([60, 61, 62].getD j 0) (1 - t) = []) := hide (fun j hj => by
                  by_cases hjj : j = 0
                  · subst hjj; exact h0
                  · exact haa.out j (by omega))
                have HLN : Hid ((atL Z 60 (1 - t)).length = 0) := hide (by rw [h0]; rfl)
                clear h0 haa
                go_wp2_with fail
                refine (HAT.out _ 60 (by omega) HRw.out).mono ?_
                rintro r w6 ⟨a', c', rfl, _, hb6⟩
                rw [HLN.out]
                have HB6 : Hid (Below wE.heap.size wE w6) := hide (hwr.out.trans (hb6.mono hwr.out.size))
                clear hb6
                go_wp2_with fail
                exact ⟨⟨1, rfl, by omega, HN, HB6⟩, by simp [intOf]⟩
              · have HR : Hid (ct = -1) := hide (by rw [← HCT.out]; exact ct_att (x := 60) (by decide) h0)
                obtain ⟨ln, hln⟩ : ∃ ln, (atL Z 60 (1 - t)).length = ln := ⟨_, rfl⟩
                have hl0 : 0 < ln := by
                  rw [← hln]; exact Nat.pos_of_ne_zero (fun e0 => h0 (List.length_eq_zero_iff.1 e0))
                have hlb : ((ln : Int) > 0) := by omega
                clear h0 haa
                go_wp2_with fail
                refine (HAT.out _ 60 (by omega) HRw.out).mono ?_
                rintro r w6 ⟨a', c', rfl, _, hb6⟩
                rw [hln]
                have HB6 : Hid (Below wE.heap.size wE w6) := hide (hwr.out.trans (hb6.mono hwr.out.size))
                clear hb6 hln
                go_wp2_with fail
                go_ret
                exact ⟨by rw [HR.out]; rfl, HB1.out.trans ((HBE.out.trans (HB6.out.mono HBE.out.size)).mono HG1.out)⟩
            · by_cases h0 : atL Z 61 (1 - t) = []
              · have HN : Hid (∀ j, j < 2 → atL Z ([60, 61, 62].getD j 0) (1 - t) = []) := hide (fun j hj => by
                  by_cases hjj : j = 1
                  · subst hjj; exact h0
                  · exact haa.out j (by omega))
                have HLN : Hid ((atL Z 61 (1 - t)).length = 0) := hide (by rw [h0]; rfl)
                clear h0 haa
                go_wp2_with fail
                refine (HAT.out _ 61 (by omega) HRw.out).mono ?_
                rintro r w6 ⟨a', c', rfl, _, hb6⟩
                rw [HLN.out]
                have HB6 : Hid (Below wE.heap.size wE w6) := hide (hwr.out.trans (hb6.mono hwr.out.size))
                clear hb6
                go_wp2_with fail
                exact ⟨⟨2, rfl, by omega, HN, HB6⟩, by simp [intOf]⟩
              · have HR : Hid (ct = -1) := hide (by rw [← HCT.out]; exact ct_att (x := 61) (by decide) h0)
                obtain ⟨ln, hln⟩ : ∃ ln, (atL Z 61 (1 - t)).length = ln := ⟨_, rfl⟩
                have hl0 : 0 < ln := by
                  rw [← hln]; exact Nat.pos_of_ne_zero (fun e0 => h0 (List.length_eq_zero_iff.1 e0))
                have hlb : ((ln : Int) > 0) := by omega
                clear h0 haa
                go_wp2_with fail
                refine (HAT.out _ 61 (by omega) HRw.out).mono ?_
                rintro r w6 ⟨a', c', rfl, _, hb6⟩
                rw [hln]
                have HB6 : Hid (Below wE.heap.size wE w6) := hide (hwr.out.trans (hb6.mono hwr.out.size))
                clear hb6 hln
                go_wp2_with fail
                go_ret
                exact ⟨by rw [HR.out]; rfl, HB1.out.trans ((HBE.out.trans (HB6.out.mono HBE.out.size)).mono HG1.out)⟩
            · by_cases h0 : atL Z 62 (1 - t) = []
              · have HN : Hid (∀ j, j < 3 → atL Z ([60, 61, 62].getD j 0) (1 - t) = []) := hide (fun j hj => by
                  by_cases hjj : j = 2
                  · subst hjj; exact h0
                  · exact haa.out j (by omega))
                have HLN : Hid ((atL Z 62 (1 - t)).length = 0) := hide (by rw [h0]; rfl)
                clear h0 haa
                go_wp2_with fail
                refine (HAT.out _ 62 (by omega) HRw.out).mono ?_
                rintro r w6 ⟨a', c', rfl, _, hb6⟩
                rw [HLN.out]
                have HB6 : Hid (Below wE.heap.size wE w6) := hide (hwr.out.trans (hb6.mono hwr.out.size))
                clear hb6
                go_wp2_with fail
                exact ⟨⟨3, rfl, by omega, HN, HB6⟩, by simp [intOf]⟩
              · have HR : Hid (ct = -1) := hide (by rw [← HCT.out]; exact ct_att (x := 62) (by decide) h0)
                obtain ⟨ln, hln⟩ : ∃ ln, (atL Z 62 (1 - t)).length = ln := ⟨_, rfl⟩
                have hl0 : 0 < ln := by
                  rw [← hln]; exact Nat.pos_of_ne_zero (fun e0 => h0 (List.length_eq_zero_iff.1 e0))
                have hlb : ((ln : Int) > 0) := by omega
                clear h0 haa
                go_wp2_with fail
                refine (HAT.out _ 62 (by omega) HRw.out).mono ?_
                rintro r w6 ⟨a', c', rfl, _, hb6⟩
                rw [hln]
                have HB6 : Hid (Below wE.heap.size wE w6) := hide (hwr.out.trans (hb6.mono hwr.out.size))
                clear hb6 hln
                go_wp2_with fail
                go_ret
                exact ⟨by rw [HR.out]; rfl, HB1.out.trans ((HBE.out.trans (HB6.out.mono HBE.out.size)).mono HG1.out)⟩
            · have HR : Hid (ct = 62) := hide (by
                rw [← HCT.out]
                exact ct_yes HBT.out (by rw [HSD.out]; decide) (fun p hp => by
                  have hh : p = 61 ∨ p = 62 := by simp [cBt] at hp; omega
                  rcases hh with rfl | rfl
                  · exact HZ.out 0 (by omega)
                  · exact HZ.out 1 (by omega)
                  ) (haa.out 0 (by omega)) (haa.out 1 (by omega)) (haa.out 2 (by omega)))
              clear haa
              go_wp2_with fail
              go_ret
              exact ⟨by rw [HR.out]; rfl, HB1.out.trans ((HBE.out.trans (hwr.out.mono HBE.out.size)).mono HG1.out)⟩
    · have hs0 : ((1 : Int) != T) = true := by rw [← HT.out, bne_iff_ne]; omega
      have HR : Hid (ct = -1) := hide (by rw [← HCT.out]; exact ct_side hside (by decide))
      clear hbt hR1 C1 hside
      try rw [hg]
      go_enter Tryd.func57, Tryd.ntmps57
      go_upto_region 1 with fail
      try rw [hg]
      clear hw1
      go_wp2_with fail
      go_ret
      exact ⟨by rw [HR.out]; rfl, HB1.out⟩

set_option maxRecDepth 100000 in
set_option maxHeartbeats 8000000 in
theorem castle_3 (a : Option Addr) (c : Nat) (Z : List Int) (t : Nat) (k e h f : Int) (ht : t ≤ 1) (hk : 0 ≤ k ∧ k ≤ 15) (hz : Pz Z) (w : World) (hR : Rd w a 64 c Z) :
    Calls Tryd.prog 57 #[.agg (chA a 64 c (t : Nat) k e h f), .int .i64 3] w fun r w' => r = .returned (.int .i64 (ctI Z t k 3)) ∧ Below w.heap.size w w' := by
  obtain ⟨g, hg⟩ : ∃ g, w.heap.size = g := ⟨_, rfl⟩
  obtain ⟨T, hT⟩ : ∃ T : Int, ((t : Nat) : Int) = T := ⟨_, rfl⟩
  have HT := hide hT
  obtain ⟨w1, hw1⟩ : ∃ w1, w.alloc (.cells (chA a 64 c T k e h f) 24) = w1 := ⟨_, rfl⟩
  have B1 : Below w.heap.size w w1 := by rw [← hw1]; exact (Below.refl _ w).alloc (Nat.le_refl _) _
  have C1 : Ch w1 g a 64 c T k e h f := by rw [← hw1, ← hg]; exact Ch.new w a 64 c T k e h f
  have s1 : w1.heap.size = g + 1 := by rw [← hw1, ← hg]; simp
  have hbt := bit_zero hk (show 3 < 4 by omega)
  obtain ⟨x0, x1, x2, -, -, -⟩ := C1.cells
  have HB1 : Hid (Below g w w1) := hide (by rw [← hg]; exact B1)
  have HG1 : Hid (g ≤ w1.heap.size) := hide (by omega)
  obtain ⟨ct, hct⟩ : ∃ ct, ctI Z t k 3 = ct := ⟨_, rfl⟩
  have HCT := hide hct
  rw [hT, hct]
  have hR1 := hR.mono B1
  clear B1 hR hT hct
  cases hb : bitB k 3 with
  | false =>
    have hb0 : (bits BinOp.and .i64 (k / 8) 1 == 0) = true := by simpa [hb] using hbt
    have HR : Hid (ct = -1) := hide (by rw [← HCT.out]; exact ct_bit hb)
    clear hbt hR1 C1
    try rw [hg]
    go_enter Tryd.func57, Tryd.ntmps57
    go_upto_region 1 with fail
    try rw [hg]
    clear hw1
    go_wp2_with fail
    go_ret
    exact ⟨by rw [HR.out]; rfl, HB1.out⟩
  | true =>
    have hb0 : (bits BinOp.and .i64 (k / 8) 1 == 0) = false := by simpa [hb] using hbt
    by_cases hside : t = 1
    · have hs0 : ((1 : Int) != T) = false := by rw [← HT.out, hside]; rfl
      have HSD := hide hside
      have HBT := hide hb
      clear hside hbt hb
      obtain ⟨wK, hwK⟩ : ∃ wK, w1.alloc (.cells #[.int .i64 4, .int .i64 4, .int .i64 60, .int .i64 60] 3) = wK := ⟨_, rfl⟩
      have vK : Vb wK (g + 1) 3 [.int .i64 4, .int .i64 4, .int .i64 60, .int .i64 60] := by rw [← hwK, ← s1]; exact Vb.new w1 3 _
      have sK : wK.heap.size = g + 2 := by rw [← hwK]; simp [s1]
      obtain ⟨wA, hwA⟩ : ∃ wA, wK.alloc (.cells #[.int .i64 5, .int .i64 6] 3) = wA := ⟨_, rfl⟩
      have vA : Vb wA (g + 2) 3 [.int .i64 5, .int .i64 6] := by rw [← hwA, ← sK]; exact Vb.new wK 3 _
      have sA : wA.heap.size = g + 3 := by rw [← hwA]; simp [sK]
      obtain ⟨wB, hwB⟩ : ∃ wB, wA.alloc (.cells #[.int .i64 1, .int .i64 2, .int .i64 3] 3) = wB := ⟨_, rfl⟩
      have vB : Vb wB (g + 3) 3 [.int .i64 1, .int .i64 2, .int .i64 3] := by rw [← hwB, ← sA]; exact Vb.new wA 3 _
      have sB : wB.heap.size = g + 4 := by rw [← hwB]; simp [sA]
      obtain ⟨wC, hwC⟩ : ∃ wC, wB.alloc (.cells #[.int .i64 61, .int .i64 62] 3) = wC := ⟨_, rfl⟩
      have vC : Vb wC (g + 4) 3 [.int .i64 61, .int .i64 62] := by rw [← hwC, ← sB]; exact Vb.new wB 3 _
      have sC : wC.heap.size = g + 5 := by rw [← hwC]; simp [sB]
      obtain ⟨wD, hwD⟩ : ∃ wD, wC.alloc (.cells #[.int .i64 57, .int .i64 58, .int .i64 59] 3) = wD := ⟨_, rfl⟩
      have vD : Vb wD (g + 5) 3 [.int .i64 57, .int .i64 58, .int .i64 59] := by rw [← hwD, ← sC]; exact Vb.new wC 3 _
      have sD : wD.heap.size = g + 6 := by rw [← hwD]; simp [sC]
      obtain ⟨wE, hwE⟩ : ∃ wE, wD.alloc (.cells #[.slice (some ⟨g + 2, 0, none⟩) 2 2, .slice (some ⟨g + 3, 0, none⟩) 3 3, .slice (some ⟨g + 4, 0, none⟩) 2 2, .slice (some ⟨g + 5, 0, none⟩) 3 3] 22) = wE := ⟨_, rfl⟩
      have vE : Vb wE (g + 6) 22 [.slice (some ⟨g + 2, 0, none⟩) 2 2, .slice (some ⟨g + 3, 0, none⟩) 3 3, .slice (some ⟨g + 4, 0, none⟩) 2 2, .slice (some ⟨g + 5, 0, none⟩) 3 3] := by rw [← hwE, ← sD]; exact Vb.new wD 22 _
      have sE : wE.heap.size = g + 7 := by rw [← hwE]; simp [sD]
      have bK : Below w1.heap.size w1 wK := by rw [← hwK]; exact (Below.refl _ _).alloc (Nat.le_refl _) _
      have bA : Below wK.heap.size wK wA := by rw [← hwA]; exact (Below.refl _ _).alloc (Nat.le_refl _) _
      have bB : Below wA.heap.size wA wB := by rw [← hwB]; exact (Below.refl _ _).alloc (Nat.le_refl _) _
      have bC : Below wB.heap.size wB wC := by rw [← hwC]; exact (Below.refl _ _).alloc (Nat.le_refl _) _
      have bD : Below wC.heap.size wC wD := by rw [← hwD]; exact (Below.refl _ _).alloc (Nat.le_refl _) _
      have bE : Below wD.heap.size wD wE := by rw [← hwE]; exact (Below.refl _ _).alloc (Nat.le_refl _) _
      have b1E : Below w1.heap.size w1 wE := ((((bK.trans (bA.mono (by omega))).trans (bB.mono (by omega))).trans (bC.mono (by omega))).trans (bD.mono (by omega))).trans (bE.mono (by omega))
      have vL : Vb wE (g + 5) 3 [.int .i64 57, .int .i64 58, .int .i64 59] := (vD.mono bE)
      have cK := vK.cell (i := 3) rfl
      have cE := vE.cell (i := 3) rfl
      have HBE := hide b1E
      have HVL := hide vL
      have HCE := hide (C1.below b1E (by omega))
      have HRE := hide (hR1.mono b1E)
      have HSE := hide sE
      clear vK vA vB vC vD vE bK bA bB bC bD bE b1E vL hR1 C1
      try rw [hg]
      go_enter Tryd.func57, Tryd.ntmps57
      go_upto_region 1 with fail
      try rw [hg]
      clear hw1
      go_upto_region 5 with fail
      clear hwK hwA hwB hwC hwD hwE cK cE sK sA sB sC sD sE s1 x0 x1 x2
      have hcm := HRE.out.max
      unfold maxLen at hcm
      have hcc := HRE.out.cap
      obtain ⟨rb, ro, rfl, hcl⟩ := HRE.out.cells (by omega)
      have HC := hide hcl
      have HAT : Hid (∀ W p, p < 64 → Rd W (some ⟨rb, ro, none⟩) 64 c Z → Calls Tryd.prog 27 #[.slice (some ⟨rb, ro, none⟩) 64 c, .int .i64 (p : Nat), .int .i64 ((1 - t : Nat) : Int)] W fun e w' => ∃ a' c', e = .returned (.slice a' (atL Z p (1 - t)).length c') ∧ Rd w' a' (atL Z p (1 - t)).length c' (toI (atL Z p (1 - t))) ∧ Below W.heap.size W w') := hide (fun W p hp hr => AttackersOf_any _ c Z p (1 - t) hp hz W hr)
      have htm : (1 : Int) - T = ((1 - t : Nat) : Int) := by rw [← HT.out]; omega
      have HTM := hide htm
      obtain ⟨y0, y1, -, -, -, -⟩ := HCE.out.cells
      clear hcl htm hz
      go_wp2_with fail
      go_loopw [7] (fun v wr => ∃ i : Nat, v = .int .i64 i ∧ i ≤ 3 ∧ Hid (∀ j, j < i → zg Z ([57, 58, 59].getD j 0) = 0) ∧ Hid (Below wE.heap.size wE wr)) (fun v _ => 3 - (intOf v).toNat)
      case atStart => exact ⟨0, rfl, by omega, hide (fun j hj => by omega), hide (Below.refl _ _)⟩
      case round =>
        obtain ⟨i, rfl, hi, hzz, hwr⟩ := hrel
        have HRw := hide (HRE.out.mono hwr.out)
        have HCw : Hid (Ch wr g (some ⟨rb, ro, none⟩) 64 c T k e h f) := hide (HCE.out.below hwr.out (by have := HSE.out; omega))
        have HVw := hide (HVL.out.mono hwr.out)
        have HCz : Hid (∀ i, i < 64 → wr.cell? ⟨rb, ro + i, none⟩ = some (.int .i64 (Z.getD i 0))) := hide (fun i hi => (hwr.out.cell (p := ⟨rb, ro + i, none⟩) (World.block_lt_of_cell? wE _ (HC.out i hi))).trans (HC.out i hi))
        clear y0 y1
        obtain ⟨y0, y1, -, -, -, -⟩ := HCw.out.cells
        rcases (show i = 0 ∨ i = 1 ∨ i = 2 ∨ i = 3 by omega) with rfl | rfl | rfl | rfl
        · have l0 := HVw.out.cell (i := 0) rfl
          have z0 := HCz.out 57 (by omega)
          by_cases h0 : zg Z 57 = 0
          · have hz0 : (zg Z 57 != 0) = false := by simp [h0]
            obtain ⟨zv, hzv⟩ : ∃ zv, Z.getD 57 0 = zv := ⟨_, rfl⟩
            have hzv' : zg Z 57 = zv := hzv
            rw [hzv] at z0
            rw [hzv'] at hz0
            have HN : Hid (∀ j, j < 1 → zg Z ([57, 58, 59].getD j 0) = 0) := hide (fun j hj => by
              by_cases hjj : j = 0
              · subst hjj; exact h0
              · exact hzz.out j (by omega))
            clear h0 hzv hzv' hzz
            go_upto_region 8 with fail
            go_quiet (fail)
            go_wp2_with fail
            exact ⟨⟨1, rfl, by omega, HN, hide (hwr.out.trans (by first | exact Below.refl _ _ | exact drewN_below _ _ _))⟩, by simp [intOf]⟩
          · have hz0 : (zg Z 57 != 0) = true := by simp [h0]
            obtain ⟨zv, hzv⟩ : ∃ zv, Z.getD 57 0 = zv := ⟨_, rfl⟩
            have hzv' : zg Z 57 = zv := hzv
            rw [hzv] at z0
            rw [hzv'] at hz0
            have HR : Hid (ct = -1) := hide (by rw [← HCT.out]; exact ct_full (x := 57) (by decide) h0)
            clear h0 hzv hzv' hzz
            go_upto_region 8 with fail
            go_quiet (fail)
            go_wp2_with fail
            go_ret
            exact ⟨by rw [HR.out]; rfl, HB1.out.trans ((HBE.out.trans ((hwr.out.trans (by first | exact Below.refl _ _ | exact drewN_below _ _ _)).mono HBE.out.size)).mono HG1.out)⟩
        · have l0 := HVw.out.cell (i := 1) rfl
          have z0 := HCz.out 58 (by omega)
          by_cases h0 : zg Z 58 = 0
          · have hz0 : (zg Z 58 != 0) = false := by simp [h0]
            obtain ⟨zv, hzv⟩ : ∃ zv, Z.getD 58 0 = zv := ⟨_, rfl⟩
            have hzv' : zg Z 58 = zv := hzv
            rw [hzv] at z0
            rw [hzv'] at hz0
            have HN : Hid (∀ j, j < 2 → zg Z ([57, 58, 59].getD j 0) = 0) := hide (fun j hj => by
              by_cases hjj : j = 1
              · subst hjj; exact h0
              · exact hzz.out j (by omega))
            clear h0 hzv hzv' hzz
            go_upto_region 8 with fail
            go_quiet (fail)
            go_wp2_with fail
            exact ⟨⟨2, rfl, by omega, HN, hide (hwr.out.trans (by first | exact Below.refl _ _ | exact drewN_below _ _ _))⟩, by simp [intOf]⟩
          · have hz0 : (zg Z 58 != 0) = true := by simp [h0]
            obtain ⟨zv, hzv⟩ : ∃ zv, Z.getD 58 0 = zv := ⟨_, rfl⟩
            have hzv' : zg Z 58 = zv := hzv
            rw [hzv] at z0
            rw [hzv'] at hz0
            have HR : Hid (ct = -1) := hide (by rw [← HCT.out]; exact ct_full (x := 58) (by decide) h0)
            clear h0 hzv hzv' hzz
            go_upto_region 8 with fail
            go_quiet (fail)
            go_wp2_with fail
            go_ret
            exact ⟨by rw [HR.out]; rfl, HB1.out.trans ((HBE.out.trans ((hwr.out.trans (by first | exact Below.refl _ _ | exact drewN_below _ _ _)).mono HBE.out.size)).mono HG1.out)⟩
        · have l0 := HVw.out.cell (i := 2) rfl
          have z0 := HCz.out 59 (by omega)
          by_cases h0 : zg Z 59 = 0
          · have hz0 : (zg Z 59 != 0) = false := by simp [h0]
            obtain ⟨zv, hzv⟩ : ∃ zv, Z.getD 59 0 = zv := ⟨_, rfl⟩
            have hzv' : zg Z 59 = zv := hzv
            rw [hzv] at z0
            rw [hzv'] at hz0
            have HN : Hid (∀ j, j < 3 → zg Z ([57, 58, 59].getD j 0) = 0) := hide (fun j hj => by
              by_cases hjj : j = 2
              · subst hjj; exact h0
              · exact hzz.out j (by omega))
            clear h0 hzv hzv' hzz
            go_upto_region 8 with fail
            go_quiet (fail)
            go_wp2_with fail
            exact ⟨⟨3, rfl, by omega, HN, hide (hwr.out.trans (by first | exact Below.refl _ _ | exact drewN_below _ _ _))⟩, by simp [intOf]⟩
          · have hz0 : (zg Z 59 != 0) = true := by simp [h0]
            obtain ⟨zv, hzv⟩ : ∃ zv, Z.getD 59 0 = zv := ⟨_, rfl⟩
            have hzv' : zg Z 59 = zv := hzv
            rw [hzv] at z0
            rw [hzv'] at hz0
            have HR : Hid (ct = -1) := hide (by rw [← HCT.out]; exact ct_full (x := 59) (by decide) h0)
            clear h0 hzv hzv' hzz
            go_upto_region 8 with fail
            go_quiet (fail)
            go_wp2_with fail
            go_ret
            exact ⟨by rw [HR.out]; rfl, HB1.out.trans ((HBE.out.trans ((hwr.out.trans (by first | exact Below.refl _ _ | exact drewN_below _ _ _)).mono HBE.out.size)).mono HG1.out)⟩
        · have HZ := hzz
          clear hzz
          rw [show ((3 : Nat) : Int) = (3 : Int) from rfl]
          obtain ⟨wF, hwF⟩ : ∃ wF, wr.alloc (.cells #[.int .i64 1, .int .i64 (-1), .int .i64 1, .int .i64 (-1)] 3) = wF := ⟨_, rfl⟩
          have vF : Vb wF wr.heap.size 3 [.int .i64 1, .int .i64 (-1), .int .i64 1, .int .i64 (-1)] := by rw [← hwF]; exact Vb.new wr 3 _
          have bF : Below wr.heap.size wr wF := by rw [← hwF]; exact (Below.refl _ _).alloc (Nat.le_refl _) _
          have cF := vF.cell (i := 3) rfl
          have HBF : Hid (Below wE.heap.size wE wF) := hide (hwr.out.trans (bF.mono hwr.out.size))
          clear vF bF
          go_upto_region 11 with fail
          clear hwF cF HRw HCw HVw HCz
          clear y0 y1
          go_wp2_with fail
          go_loopw [9] (fun v wr => ∃ i : Nat, v = .int .i64 i ∧ i ≤ 3 ∧ Hid (∀ j, j < i → atL Z ([60, 59, 58].getD j 0) (1 - t) = []) ∧ Hid (Below wE.heap.size wE wr)) (fun v _ => 3 - (intOf v).toNat)
          case atStart => exact ⟨0, rfl, by omega, hide (fun j hj => by omega), HBF⟩
          case round =>
            clear hwr
            obtain ⟨i, rfl, hi, haa, hwr⟩ := hrel
            have HRw := hide (HRE.out.mono hwr.out)
            have HCw : Hid (Ch wr g (some ⟨rb, ro, none⟩) 64 c T k e h f) := hide (HCE.out.below hwr.out (by have := HSE.out; omega))
            obtain ⟨y0, y1, -, -, -, -⟩ := HCw.out.cells
            have htm := HTM.out
            have htw : IntKind.i64.wrap (1 - T) = ((1 - t : Nat) : Int) := by rw [htm, IntKind.wrap_i64]; omega
            rcases (show i = 0 ∨ i = 1 ∨ i = 2 ∨ i = 3 by omega) with rfl | rfl | rfl | rfl
            · by_cases h0 : atL Z 60 (1 - t) = []
              · have HN : Hid (∀ j, j < 1 → atL Z ([60, 59, 58].getD j 0) (1 - t) = []) := hide (fun j hj => by
                  by_cases hjj : j = 0
                  · subst hjj; exact h0
                  · exact haa.out j (by omega))
                have HLN : Hid ((atL Z 60 (1 - t)).length = 0) := hide (by rw [h0]; rfl)
                clear h0 haa
                go_wp2_with fail
                refine (HAT.out _ 60 (by omega) HRw.out).mono ?_
                rintro r w6 ⟨a', c', rfl, _, hb6⟩
                rw [HLN.out]
                have HB6 : Hid (Below wE.heap.size wE w6) := hide (hwr.out.trans (hb6.mono hwr.out.size))
                clear hb6
                go_wp2_with fail
                exact ⟨⟨1, rfl, by omega, HN, HB6⟩, by simp [intOf]⟩
              · have HR : Hid (ct = -1) := hide (by rw [← HCT.out]; exact ct_att (x := 60) (by decide) h0)
                obtain ⟨ln, hln⟩ : ∃ ln, (atL Z 60 (1 - t)).length = ln := ⟨_, rfl⟩
                have hl0 : 0 < ln := by
                  rw [← hln]; exact Nat.pos_of_ne_zero (fun e0 => h0 (List.length_eq_zero_iff.1 e0))
                have hlb : ((ln : Int) > 0) := by omega
                clear h0 haa
                go_wp2_with fail
                refine (HAT.out _ 60 (by omega) HRw.out).mono ?_
                rintro r w6 ⟨a', c', rfl, _, hb6⟩
                rw [hln]
                have HB6 : Hid (Below wE.heap.size wE w6) := hide (hwr.out.trans (hb6.mono hwr.out.size))
                clear hb6 hln
                go_wp2_with fail
                go_ret
                exact ⟨by rw [HR.out]; rfl, HB1.out.trans ((HBE.out.trans (HB6.out.mono HBE.out.size)).mono HG1.out)⟩
            · by_cases h0 : atL Z 59 (1 - t) = []
              · have HN : Hid (∀ j, j < 2 → atL Z ([60, 59, 58].getD j 0) (1 - t) = []) := hide (fun j hj => by
                  by_cases hjj : j = 1
                  · subst hjj; exact h0
                  · exact haa.out j (by omega))
                have HLN : Hid ((atL Z 59 (1 - t)).length = 0) := hide (by rw [h0]; rfl)
                clear h0 haa
                go_wp2_with fail
                refine (HAT.out _ 59 (by omega) HRw.out).mono ?_
                rintro r w6 ⟨a', c', rfl, _, hb6⟩
                rw [HLN.out]
                have HB6 : Hid (Below wE.heap.size wE w6) := hide (hwr.out.trans (hb6.mono hwr.out.size))
                clear hb6
                go_wp2_with fail
                exact ⟨⟨2, rfl, by omega, HN, HB6⟩, by simp [intOf]⟩
              · have HR : Hid (ct = -1) := hide (by rw [← HCT.out]; exact ct_att (x := 59) (by decide) h0)
                obtain ⟨ln, hln⟩ : ∃ ln, (atL Z 59 (1 - t)).length = ln := ⟨_, rfl⟩
                have hl0 : 0 < ln := by
                  rw [← hln]; exact Nat.pos_of_ne_zero (fun e0 => h0 (List.length_eq_zero_iff.1 e0))
                have hlb : ((ln : Int) > 0) := by omega
                clear h0 haa
                go_wp2_with fail
                refine (HAT.out _ 59 (by omega) HRw.out).mono ?_
                rintro r w6 ⟨a', c', rfl, _, hb6⟩
                rw [hln]
                have HB6 : Hid (Below wE.heap.size wE w6) := hide (hwr.out.trans (hb6.mono hwr.out.size))
                clear hb6 hln
                go_wp2_with fail
                go_ret
                exact ⟨by rw [HR.out]; rfl, HB1.out.trans ((HBE.out.trans (HB6.out.mono HBE.out.size)).mono HG1.out)⟩
            · by_cases h0 : atL Z 58 (1 - t) = []
              · have HN : Hid (∀ j, j < 3 → atL Z ([60, 59, 58].getD j 0) (1 - t) = []) := hide (fun j hj => by
                  by_cases hjj : j = 2
                  · subst hjj; exact h0
                  · exact haa.out j (by omega))
                have HLN : Hid ((atL Z 58 (1 - t)).length = 0) := hide (by rw [h0]; rfl)
                clear h0 haa
                go_wp2_with fail
                refine (HAT.out _ 58 (by omega) HRw.out).mono ?_
                rintro r w6 ⟨a', c', rfl, _, hb6⟩
                rw [HLN.out]
                have HB6 : Hid (Below wE.heap.size wE w6) := hide (hwr.out.trans (hb6.mono hwr.out.size))
                clear hb6
                go_wp2_with fail
                exact ⟨⟨3, rfl, by omega, HN, HB6⟩, by simp [intOf]⟩
              · have HR : Hid (ct = -1) := hide (by rw [← HCT.out]; exact ct_att (x := 58) (by decide) h0)
                obtain ⟨ln, hln⟩ : ∃ ln, (atL Z 58 (1 - t)).length = ln := ⟨_, rfl⟩
                have hl0 : 0 < ln := by
                  rw [← hln]; exact Nat.pos_of_ne_zero (fun e0 => h0 (List.length_eq_zero_iff.1 e0))
                have hlb : ((ln : Int) > 0) := by omega
                clear h0 haa
                go_wp2_with fail
                refine (HAT.out _ 58 (by omega) HRw.out).mono ?_
                rintro r w6 ⟨a', c', rfl, _, hb6⟩
                rw [hln]
                have HB6 : Hid (Below wE.heap.size wE w6) := hide (hwr.out.trans (hb6.mono hwr.out.size))
                clear hb6 hln
                go_wp2_with fail
                go_ret
                exact ⟨by rw [HR.out]; rfl, HB1.out.trans ((HBE.out.trans (HB6.out.mono HBE.out.size)).mono HG1.out)⟩
            · have HR : Hid (ct = 58) := hide (by
                rw [← HCT.out]
                exact ct_yes HBT.out (by rw [HSD.out]; decide) (fun p hp => by
                  have hh : p = 57 ∨ p = 58 ∨ p = 59 := by simp [cBt] at hp; omega
                  rcases hh with rfl | rfl | rfl
                  · exact HZ.out 0 (by omega)
                  · exact HZ.out 1 (by omega)
                  · exact HZ.out 2 (by omega)
                  ) (haa.out 0 (by omega)) (haa.out 1 (by omega)) (haa.out 2 (by omega)))
              clear haa
              go_wp2_with fail
              go_ret
              exact ⟨by rw [HR.out]; rfl, HB1.out.trans ((HBE.out.trans (hwr.out.mono HBE.out.size)).mono HG1.out)⟩
    · have hs0 : ((1 : Int) != T) = true := by rw [← HT.out, bne_iff_ne]; omega
      have HR : Hid (ct = -1) := hide (by rw [← HCT.out]; exact ct_side hside (by decide))
      clear hbt hR1 C1 hside
      try rw [hg]
      go_enter Tryd.func57, Tryd.ntmps57
      go_upto_region 1 with fail
      try rw [hg]
      clear hw1
      go_wp2_with fail
      go_ret
      exact ⟨by rw [HR.out]; rfl, HB1.out⟩

theorem castleTo_any (a : Option Addr) (c : Nat) (Z : List Int) (t : Nat) (k e h f : Int) (ht : t ≤ 1) (hk : 0 ≤ k ∧ k ≤ 15) (hz : Pz Z) (n : Nat) (hn : n < 4) (w : World) (hR : Rd w a 64 c Z) :
    Calls Tryd.prog 57 #[.agg (chA a 64 c (t : Nat) k e h f), .int .i64 (n : Nat)] w fun r w' => r = .returned (.int .i64 (ctI Z t k n)) ∧ Below w.heap.size w w' := by
  rcases (show n = 0 ∨ n = 1 ∨ n = 2 ∨ n = 3 by omega) with rfl | rfl | rfl | rfl
  · exact castle_0 a c Z t k e h f ht hk hz w hR
  · exact castle_1 a c Z t k e h f ht hk hz w hR
  · exact castle_2 a c Z t k e h f ht hk hz w hR
  · exact castle_3 a c Z t k e h f ht hk hz w hR

end Go.Proofs.YtdmlamnonbmboaaDoor
