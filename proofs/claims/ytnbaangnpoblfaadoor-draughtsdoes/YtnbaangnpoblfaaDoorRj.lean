/-
  The document's search for jumps, walked. No conditions beyond those that each theorem bears.
-/
import Derived.Test.YtnbaangnpoblfaaDoorRj0
namespace Go.Proofs.YtnbaangnpoblfaaDoor
open Go.RowKit Go.Shelf

attribute [local irreducible] own3 fwd nb dkX dkY dkAt rjN rjT rjB hopN toI dirR dX dY crw

set_option maxRecDepth 100000 in
set_option maxHeartbeats 16000000 in
theorem jumpsOn_succ (Z : List Int) (t p0 f : Nat) (hM : Mb Z t) (_hp : p0 ∈ plc Z t) (hf12 : f ≤ 12) (ih : RJn Z t p0 f) : RJn Z t p0 (f + 1) := by
  intro c W ov az aw ao cz cw co w hc1 hc2 hF hWh hWl hWn hz hw ho
  have ht : t = 1 ∨ t = 2 := by have := hM.tt; omega
  obtain ⟨w1, hw1⟩ : ∃ w1, w.alloc (.cells (dgA az 33 cz (t : Nat)) 24) = w1 := ⟨_, rfl⟩
  have HB1 : Hid (Below w.heap.size w w1) := hide (by rw [← hw1]; exact (Below.refl _ _).alloc (Nat.le_refl _) _)
  have HG1 : Hid (Dg w1 w.heap.size az 33 cz (t : Nat)) := hide (by rw [← hw1]; exact Dg.new _ _ _ _ _)
  have hz1 := hz.mono HB1.out
  have hw1' := hw.mono HB1.out
  have ho1 := ho.mono HB1.out
  have hcz := hz.max
  have hccz := hz.cap
  have hcw := hw.max
  have hccw := hw.cap
  have hco := ho.max
  have hcco := ho.cap
  unfold maxLen at hcz hcw hco
  have ho12 := (hF.pos hM).2
  have hWpos : 1 ≤ W.length := by omega
  have hW13 : W.length ≤ 13 := by omega
  obtain ⟨bz, oz, rfl, hzc⟩ := hz1.cells (by omega)
  obtain ⟨bw, ow, rfl, hwc⟩ := hw1'.cells (by omega)
  have HZC := hide hzc
  have cw0 : w1.cell? ⟨bw, ow, none⟩ = some (.int .i64 (p0 : Nat)) := by
    have := hwc 0 (by omega)
    rw [toI_getD (by omega), Nat.add_zero] at this
    rw [this, ← hWh]
    cases W with
    | nil => simp at hWpos
    | cons x W => rfl
  have cwl : w1.cell? ⟨bw, ow + (W.length - 1), none⟩ = some (.int .i64 (c : Nat)) := by
    have := hwc (W.length - 1) (by omega)
    rw [toI_getD (by omega), ← lastD_getD, hWl] at this
    exact this
  have HCW0 := hide cw0
  have HZ1 := hide hz1
  have HW1 := hide hw1'
  have HO1 := hide ho1
  have HF := hide hF
  have HIH := hide ih
  have HWH := hide hWh
  have HWN := hide hWn
  have HDK := hide (fun d (hd : d < 4) => dk_nb d hd c (by omega) (by omega))
  have hrg := dk_rng c (by omega)
  have HDX := hide (fun W => darkX_any c hc1 hc2 W)
  have HDY := hide (fun W => darkY_any c hc1 hc2 W)
  have HFU := hide (fun d q m (hd : d < 4) (hh : hopN Z t p0 c ov d = some (q, m)) => hF.next (q := q) (m := m) hc2 hd hh)
  have HNL := hide (fun d p (hd : d < 4) (hp : p ≤ 32) => nb_le hd hp)
  have HTS := hide (rjT_succ Z t p0 f c W ov)
  have HTL := hide (fun k (hk : k ≤ 4) => rjT_len (Z := Z) (t := t) (p0 := p0) (f := f) (c := c) (W := W) (ov := ov) hk)
  have HPW : Hid (4 * 4 ^ f ≤ 67108864) := hide (by have : 4 ^ f ≤ 4 ^ 12 := Nat.pow_le_pow_right (by omega) hf12; omega)
  have HBD : Hid (∀ d, rjB Z t (rjN Z t p0 f) p0 c W ov d = match hopN Z t p0 c ov d with | none => [] | some (q, m) => if (if crw (Z.getD p0 0) q = true then [] else rjN Z t p0 f q (W ++ [q]) (ov ++ [m])) = [] then [W ++ [q]] else (if crw (Z.getD p0 0) q = true then [] else rjN Z t p0 f q (W ++ [q]) (ov ++ [m]))) := hide (fun d => by unfold rjB; rfl)
  have HBL : Hid (∀ d, (rjB Z t (rjN Z t p0 f) p0 c W ov d).length ≤ 67108864) := hide (fun d => Nat.le_trans (rjB_len (fun q W ov => rjN_len f q W ov) (Nat.one_le_pow _ _ (by omega))) (by have := HPW.out; omega))
  have HT := hide ht
  obtain ⟨RS, hRS⟩ : ∃ RS, rjN Z t p0 (f + 1) c W ov = RS := ⟨_, rfl⟩
  have HRS : Hid (RS = rjT Z t p0 f c W ov 4) := hide (by rw [← hRS, rjT_four])
  rw [hRS]
  obtain ⟨nW, hnW⟩ : ∃ nW, W.length = nW := ⟨_, rfl⟩
  obtain ⟨nO, hnO⟩ : ∃ nO, ov.length = nO := ⟨_, rfl⟩
  rw [hnW] at cwl hW13 hWpos hccw HW1 HWN ⊢
  rw [hnO] at HO1 ho12 HWN hcco ⊢
  obtain ⟨nL, hnL⟩ : ∃ nL, nW - 1 = nL := ⟨_, rfl⟩
  rw [hnL] at cwl
  have hnL1 : (nW : Int) - 1 = (nL : Int) := by omega
  have hnL2 : (nL : Int) < nW := by omega
  obtain ⟨pc, hpc⟩ : ∃ pc, Z.getD p0 0 = pc := ⟨_, rfl⟩
  have HPC := hide hpc
  rw [hpc]
  have HHN : Hid (∀ d, ¬ (fwd pc d = true ∧ nb d (nb d c) ≠ 0 ∧ own3 (Z.getD (nb d c) 0) = 3 - t ∧ ov.contains (nb d c) = false ∧ (Z.getD (nb d (nb d c)) 0 = 0 ∨ nb d (nb d c) = p0)) → hopN Z t p0 c ov d = none) := hide (fun d h => hop_no (by rw [hpc]; exact h))
  have HHY : Hid (∀ d, (fwd pc d = true ∧ nb d (nb d c) ≠ 0 ∧ own3 (Z.getD (nb d c) 0) = 3 - t ∧ ov.contains (nb d c) = false ∧ (Z.getD (nb d (nb d c)) 0 = 0 ∨ nb d (nb d c) = p0)) → hopN Z t p0 c ov d = some (nb d (nb d c), nb d c)) := hide (fun d h => hop_yes (by rw [hpc]; exact h))
  have HNZ : Hid (∀ d, nb d 0 = 0) := hide nb_zero
  have HTM : Hid (∀ m : Nat, ((m : Int) ∈ toI ov) ↔ ov.contains m = true) := hide (fun m => toI_mem)
  clear hz hw ho hz1 hw1' ho1 hzc hwc hF ih hWh hWl hWn hM _hp hc1 hRS hnW hnO hnL hpc ht hf12 cw0
  go_enter Tryd.func40, Tryd.ntmps40
  go_upto_region 1 with fail
  clear hw1
  go_wp2_with fail
  clear cwl
  go_loopw [10, 11] (fun v10 v11 wr => ∃ (i : Nat) (x : Int), v11 = .int .i64 x ∧ i ≤ 2 ∧ -1 ≤ x ∧ x ≤ 3 ∧ Hid (x = 2 * (i : Int) - 1) ∧ (∃ a10 c10 n10, v10 = .slice a10 n10 c10) ∧ Hid (Fl (fun k => w1.heap.size ≤ k) w1.heap.size wr v10 ((rjT Z t p0 f c W ov (2 * i)).map toI)) ∧ Hid (Below w1.heap.size w1 wr)) (fun _ v _ => 4 - (intOf v + 1).toNat)
  case atStart => exact ⟨0, -1, rfl, by omega, by omega, by omega, hide (by omega), ⟨_, _, _, rfl⟩, hide (by rw [rjT_zero]; exact Fl.nil _ _ _), hide (Below.refl _ _)⟩
  case round =>
    obtain ⟨i, x, rfl, hi, hx1, hx2, hx, ⟨a10, c10, n10, rfl⟩, hFl, hB⟩ := hrel
    by_cases hi2 : i < 2
    · have hxl : x ≤ 1 := by have := hx.out; omega
      go_wp2_with fail
      go_loopw [10, 12] (fun v10 v12 wr2 => ∃ (j : Nat) (y : Int), v12 = .int .i64 y ∧ j ≤ 2 ∧ -1 ≤ y ∧ y ≤ 3 ∧ Hid (y = 2 * (j : Int) - 1) ∧ (∃ a10 c10 n10, v10 = .slice a10 n10 c10) ∧ Hid (Fl (fun k => w1.heap.size ≤ k) w1.heap.size wr2 v10 ((rjT Z t p0 f c W ov (2 * i + j)).map toI)) ∧ Hid (Below w1.heap.size w1 wr2)) (fun _ v _ => 4 - (intOf v + 1).toNat)
      case atStart => exact ⟨0, -1, rfl, by omega, by omega, by omega, hide (by omega), ⟨_, _, _, rfl⟩, hFl, hB⟩
      case round =>
        clear hFl hB
        obtain ⟨j, y, rfl, hj, hy1, hy2, hy, ⟨a10, c10, n10, rfl⟩, hFl, hB⟩ := hrel
        by_cases hj2 : j < 2
        · have hyl : y ≤ 1 := by have := hy.out; omega
          obtain ⟨d, hd⟩ : ∃ d, dirR (2 * i + j) = d := ⟨_, rfl⟩
          obtain ⟨dx, dy⟩ := dirR_x hi2 hj2
          have hd4 : d < 4 := hd ▸ dirR_lt _
          rw [hd, ← hx.out] at dx
          rw [hd, ← hy.out] at dy
          have HFW := hide (fun W => forwardMay_any pc d W)
          rw [dy] at HFW
          obtain ⟨k1, k2⟩ := HDK.out d hd4
          rw [dx, dy] at k1 k2
          have HA1 := hide (fun W => darkAt_any ((dkX c : Int) + x) ((dkY c : Int) + y) (by omega) (by omega) W)
          have HA2 := hide (fun W => darkAt_any ((dkX c : Int) + 2 * x) ((dkY c : Int) + 2 * y) (by omega) (by omega) W)
          rw [k1] at HA1
          rw [k2] at HA2
          have hm32 := HNL.out d c hd4 hc2
          have hq32 := HNL.out d _ hd4 hm32
          have HTS1 := hide (HTS.out (2 * i + j))
          rw [hd] at HTS1
          have HHN1 := hide (HHN.out d)
          have HHY1 := hide (HHY.out d)
          have HBD1 := hide (HBD.out d)
          have HBL1 := hide (HBL.out d)
          have HFU1 := hide (fun q m hh => HFU.out d q m hd4 hh)
          have HM0 : Hid (nb d (nb d c) ≠ 0 → nb d c ≠ 0) := hide (fun h e => h (by rw [e, HNZ.out]))
          obtain ⟨m, hm⟩ : ∃ m, nb d c = m := ⟨_, rfl⟩
          rw [hm] at HA1 HA2 hm32 hq32 HHN1 HHY1 HM0
          obtain ⟨q, hq⟩ : ∃ q, nb d m = q := ⟨_, rfl⟩
          rw [hq] at HA2 hq32 HHN1 HHY1 HM0
          obtain ⟨X, hX⟩ : ∃ X, dkX c = X := ⟨_, rfl⟩
          obtain ⟨Y, hY⟩ : ∃ Y, dkY c = Y := ⟨_, rfl⟩
          have HX1 := hide HDX.out
          have HY1 := hide HDY.out
          rw [hX] at HA1 HA2 HX1 hrg
          rw [hY] at HA1 HA2 HY1 hrg
          have HG2 := hide (HG1.out.below hB.out HG1.out.lt)
          have czm : ∀ k, k ≤ 32 → wr.cell? ⟨bz, oz + k, none⟩ = some (.int .i64 (Z.getD k 0)) := fun k hk => (hB.out.cell (World.block_lt_of_cell? w1 _ (HZC.out k (by omega)))).trans (HZC.out k (by omega))
          have HCZ := hide czm
          have cw := (hB.out.cell (World.block_lt_of_cell? w1 _ HCW0.out)).trans HCW0.out
          have HCW := hide cw
          have HO2 := hide (HO1.out.mono hB.out)
          have HAT := hide (fun W (h : Rd W ao nO co (toI ov)) => at_any ao nO co (toI ov) (m : Nat) (by omega) W h)
          have HTM1 := hide (HTM.out m)
          have HOW := hide (fun W => ownerOf_any (Z.getD m 0) W)
          obtain ⟨zm, hzm⟩ : ∃ zm, Z.getD m 0 = zm := ⟨_, rfl⟩
          obtain ⟨zq, hzq⟩ : ∃ zq, Z.getD q 0 = zq := ⟨_, rfl⟩
          rw [hzm] at HHN1 HHY1 HOW
          rw [hzq] at HHN1 HHY1
          have HCM : Hid (wr.cell? ⟨bz, oz + m, none⟩ = some (.int .i64 zm)) := hide (by rw [← hzm]; exact HCZ.out m hm32)
          have HCQ : Hid (wr.cell? ⟨bz, oz + q, none⟩ = some (.int .i64 zq)) := hide (by rw [← hzq]; exact HCZ.out q hq32)
          clear hd dx dy k1 k2 hm hq hX hY czm cw hzm hzq hd4
          go_wp2_with fail
          refine (HX1.out _).mono ?_
          rintro e w9 ⟨rfl, hw9⟩
          subst w9
          go_wp2_with fail
          refine (HY1.out _).mono ?_
          rintro e w9 ⟨rfl, hw9⟩
          subst w9
          go_wp2_with fail
          refine (HA1.out _).mono ?_
          rintro e w9 ⟨rfl, hw9⟩
          subst w9
          go_wp2_with fail
          refine (HX1.out _).mono ?_
          rintro e w9 ⟨rfl, hw9⟩
          subst w9
          go_wp2_with fail
          refine (HY1.out _).mono ?_
          rintro e w9 ⟨rfl, hw9⟩
          subst w9
          go_wp2_with fail
          refine (HA2.out _).mono ?_
          rintro e w9 ⟨rfl, hw9⟩
          subst w9
          go_upto_region 10 with fail
          obtain ⟨bd, hbd⟩ : ∃ bd, decide (¬ (fwd pc d = true ∧ q ≠ 0 ∧ own3 zm = 3 - t ∧ ov.contains m = false ∧ (zq = 0 ∨ q = p0))) = bd := ⟨_, rfl⟩
          have HFC : Hid (∀ W4, Below wr.heap.size wr W4 → W4.cell? ⟨w.heap.size, 0, none⟩ = some (.slice (some ⟨bz, oz, none⟩) 33 cz) ∧ W4.cell? ⟨w.heap.size, 1, none⟩ = some (.int .i64 (t : Nat)) ∧ W4.cell? ⟨bz, oz + m, none⟩ = some (.int .i64 zm) ∧ W4.cell? ⟨bz, oz + q, none⟩ = some (.int .i64 zq) ∧ W4.cell? ⟨bw, ow, none⟩ = some (.int .i64 (p0 : Nat))) := hide (fun W4 hb => ⟨(HG2.out.below hb HG2.out.lt).cells.1, (HG2.out.below hb HG2.out.lt).cells.2, (hb.cell (World.block_lt_of_cell? wr _ HCM.out)).trans HCM.out, (hb.cell (World.block_lt_of_cell? wr _ HCQ.out)).trans HCQ.out, (hb.cell (World.block_lt_of_cell? wr _ HCW.out)).trans HCW.out⟩)
          go_cut [92] from 52 to 92 (fun s wc => s = .bool bd ∧ wr.drew = wc)
          case first =>
            have ht3 : (3 : Int) - (t : Int) = ((3 - t : Nat) : Int) := by have := HT.out; omega
            have ht2 : t ≤ 2 := by have := HT.out; omega
            by_cases c1 : fwd pc d = true
            · have hfw := c1
              by_cases c2 : q = 0
              · have hqz : ((q : Int) == 0) = true := by rw [c2]; rfl
                have HBV : Hid (bd = true) := hide (by rw [← hbd, decide_eq_true_eq]; exact fun k => k.2.1 c2)
                clear c2 hbd
                refine wp_region_held (S := fun W4 => Below wr.heap.size wr W4) (by kernel_rfl) ?_
                change wpAnyH _ _ _ _ _ _ _ _ (World.drew _)
                have SW : Below wr.heap.size wr wr.drew := (Below.refl _ wr).drew
                refine wpAnyH_take (i := 0) (v := .int .i64 pc) rfl (by kernel_rfl) (by kernel_rfl) (by kernel_rfl) (fun _ _ _ h => h) (Or.inl ⟨by rfl, ?_⟩) SW ?_
                · intro W4 hW4
                  go_simp <;> first | done | rfl | (rw [IntKind.wrap_i64]; omega) | omega
                go_simp
                refine wpAnyH_take (i := 1) (v := .int .i64 y) rfl (by kernel_rfl) (by kernel_rfl) (by kernel_rfl) (fun _ _ _ h => h) (Or.inl ⟨by rfl, ?_⟩) SW ?_
                · intro W4 hW4
                  go_simp <;> first | done | rfl | (rw [IntKind.wrap_i64]; omega) | omega
                go_simp
                refine wpAnyH_ready (rs := [2]) (by kernel_rfl) (by simp) ?_
                refine AllReadyH.cons rfl (fun K1 hK1 => ?_) AllReadyH.nil
                go_simp
                refine (HFW.out _).mono ?_
                rintro r w5 ⟨rfl, hw5⟩
                subst w5
                rw [hfw]
                refine hK1.out _ _ SW (fun SW => ?_)
                clear hK1 K1
                go_simp
                refine wpAnyH_take (i := 3) (v := .bool false) rfl (by kernel_rfl) (by kernel_rfl) (by kernel_rfl) (fun _ _ _ h => h) (Or.inl ⟨by rfl, ?_⟩) SW ?_
                · intro W4 hW4
                  go_simp <;> first | done | rfl | (rw [IntKind.wrap_i64]; omega) | omega
                go_simp
                refine wpAnyH_take (i := 4) (v := .bool false) rfl (by kernel_rfl) (by kernel_rfl) (by kernel_rfl) (fun _ _ _ h => h) (Or.inl ⟨by rfl, ?_⟩) SW ?_
                · intro W4 hW4
                  go_simp <;> first | done | rfl | (rw [IntKind.wrap_i64]; omega) | omega
                go_simp
                refine wpAnyH_take (i := 5) (v := .int .i64 (q : Nat)) rfl (by kernel_rfl) (by kernel_rfl) (by kernel_rfl) (fun _ _ _ h => h) (Or.inl ⟨by rfl, ?_⟩) SW ?_
                · intro W4 hW4
                  go_simp <;> first | done | rfl | (rw [IntKind.wrap_i64]; omega) | omega
                go_simp
                refine wpAnyH_take (i := 6) (v := .bool true) rfl (by kernel_rfl) (by kernel_rfl) (by kernel_rfl) (fun _ _ _ h => h) (Or.inl ⟨by rfl, ?_⟩) SW ?_
                · intro W4 hW4
                  have x0 := hqz
                  go_simp <;> first | done | rfl | (rw [IntKind.wrap_i64]; omega) | omega
                go_simp
                refine wpAnyH_take (i := 7) (v := .bool true) rfl (by kernel_rfl) (by kernel_rfl) (by kernel_rfl) (fun _ _ _ h => h) (Or.inl ⟨by rfl, ?_⟩) SW ?_
                · intro W4 hW4
                  go_simp <;> first | done | rfl | (rw [IntKind.wrap_i64]; omega) | omega
                go_simp
                refine wpAnyH_take (i := 8) (v := .bool true) rfl (by kernel_rfl) (by kernel_rfl) (by kernel_rfl) (fun _ _ _ h => h) (Or.inl ⟨by rfl, ?_⟩) SW ?_
                · intro W4 hW4
                  go_simp <;> first | done | rfl | (rw [IntKind.wrap_i64]; omega) | omega
                go_simp
                refine wpAnyH_take (i := 9) (v := undef) rfl (by kernel_rfl) (by kernel_rfl) (by kernel_rfl) (fun _ _ _ h => h) (Or.inr ⟨by rfl, rfl⟩) SW ?_
                go_simp
                refine wpAnyH_take (i := 10) (v := undef) rfl (by kernel_rfl) (by kernel_rfl) (by kernel_rfl) (fun _ _ _ h => h) (Or.inr ⟨by rfl, rfl⟩) SW ?_
                go_simp
                refine wpAnyH_take (i := 11) (v := undef) rfl (by kernel_rfl) (by kernel_rfl) (by kernel_rfl) (fun _ _ _ h => h) (Or.inr ⟨by rfl, rfl⟩) SW ?_
                go_simp
                refine wpAnyH_take (i := 12) (v := undef) rfl (by kernel_rfl) (by kernel_rfl) (by kernel_rfl) (fun _ _ _ h => h) (Or.inr ⟨by rfl, rfl⟩) SW ?_
                go_simp
                refine wpAnyH_take (i := 13) (v := undef) rfl (by kernel_rfl) (by kernel_rfl) (by kernel_rfl) (fun _ _ _ h => h) (Or.inr ⟨by rfl, rfl⟩) SW ?_
                go_simp
                refine wpAnyH_take (i := 15) (v := undef) rfl (by kernel_rfl) (by kernel_rfl) (by kernel_rfl) (fun _ _ _ h => h) (Or.inr ⟨by rfl, rfl⟩) SW ?_
                go_simp
                refine wpAnyH_take (i := 16) (v := undef) rfl (by kernel_rfl) (by kernel_rfl) (by kernel_rfl) (fun _ _ _ h => h) (Or.inr ⟨by rfl, rfl⟩) SW ?_
                go_simp
                refine wpAnyH_take (i := 17) (v := undef) rfl (by kernel_rfl) (by kernel_rfl) (by kernel_rfl) (fun _ _ _ h => h) (Or.inr ⟨by rfl, rfl⟩) SW ?_
                go_simp
                refine wpAnyH_ready (rs := [14]) (by kernel_rfl) (by simp) ?_
                refine AllReadyH.cons rfl (fun K1 hK1 => ?_) AllReadyH.nil
                go_simp
                refine hK1.out _ _ SW (fun SW => ?_)
                clear hK1 K1
                go_simp
                refine wpAnyH_take (i := 18) (v := undef) rfl (by kernel_rfl) (by kernel_rfl) (by kernel_rfl) (fun _ _ _ h => h) (Or.inr ⟨by rfl, rfl⟩) SW ?_
                go_simp
                refine wpAnyH_take (i := 19) (v := .bool true) rfl (by kernel_rfl) (by kernel_rfl) (by kernel_rfl) (fun _ _ _ h => h) (Or.inl ⟨by rfl, ?_⟩) SW ?_
                · intro W4 hW4
                  go_simp <;> first | done | rfl | (rw [IntKind.wrap_i64]; omega) | omega
                go_simp
                refine wpAnyH_take (i := 20) (v := .bool true) rfl (by kernel_rfl) (by kernel_rfl) (by kernel_rfl) (fun _ _ _ h => h) (Or.inl ⟨by rfl, ?_⟩) SW ?_
                · intro W4 hW4
                  go_simp <;> first | done | rfl | (rw [IntKind.wrap_i64]; omega) | omega
                go_simp
                refine wpAnyH_take (i := 21) (v := undef) rfl (by kernel_rfl) (by kernel_rfl) (by kernel_rfl) (fun _ _ _ h => h) (Or.inr ⟨by rfl, rfl⟩) SW ?_
                go_simp
                refine wpAnyH_take (i := 22) (v := undef) rfl (by kernel_rfl) (by kernel_rfl) (by kernel_rfl) (fun _ _ _ h => h) (Or.inr ⟨by rfl, rfl⟩) SW ?_
                go_simp
                refine wpAnyH_ready (rs := [23]) (by kernel_rfl) (by simp) ?_
                refine AllReadyH.cons rfl (fun K1 hK1 => ?_) AllReadyH.nil
                go_simp
                refine hK1.out _ _ SW (fun SW => ?_)
                clear hK1 K1
                go_simp
                refine wpAnyH_take (i := 24) (v := undef) rfl (by kernel_rfl) (by kernel_rfl) (by kernel_rfl) (fun _ _ _ h => h) (Or.inr ⟨by rfl, rfl⟩) SW ?_
                go_simp
                refine wpAnyH_take (i := 25) (v := .bool true) rfl (by kernel_rfl) (by kernel_rfl) (by kernel_rfl) (fun _ _ _ h => h) (Or.inl ⟨by rfl, ?_⟩) SW ?_
                · intro W4 hW4
                  go_simp <;> first | done | rfl | (rw [IntKind.wrap_i64]; omega) | omega
                go_simp
                refine wpAnyH_take (i := 26) (v := .bool true) rfl (by kernel_rfl) (by kernel_rfl) (by kernel_rfl) (fun _ _ _ h => h) (Or.inl ⟨by rfl, ?_⟩) SW ?_
                · intro W4 hW4
                  go_simp <;> first | done | rfl | (rw [IntKind.wrap_i64]; omega) | omega
                go_simp
                refine wpAnyH_take (i := 27) (v := undef) rfl (by kernel_rfl) (by kernel_rfl) (by kernel_rfl) (fun _ _ _ h => h) (Or.inr ⟨by rfl, rfl⟩) SW ?_
                go_simp
                refine wpAnyH_take (i := 28) (v := undef) rfl (by kernel_rfl) (by kernel_rfl) (by kernel_rfl) (fun _ _ _ h => h) (Or.inr ⟨by rfl, rfl⟩) SW ?_
                go_simp
                refine wpAnyH_take (i := 29) (v := undef) rfl (by kernel_rfl) (by kernel_rfl) (by kernel_rfl) (fun _ _ _ h => h) (Or.inr ⟨by rfl, rfl⟩) SW ?_
                go_simp
                refine wpAnyH_take (i := 30) (v := undef) rfl (by kernel_rfl) (by kernel_rfl) (by kernel_rfl) (fun _ _ _ h => h) (Or.inr ⟨by rfl, rfl⟩) SW ?_
                go_simp
                refine wpAnyH_take (i := 31) (v := undef) rfl (by kernel_rfl) (by kernel_rfl) (by kernel_rfl) (fun _ _ _ h => h) (Or.inr ⟨by rfl, rfl⟩) SW ?_
                go_simp
                refine wpAnyH_take (i := 32) (v := undef) rfl (by kernel_rfl) (by kernel_rfl) (by kernel_rfl) (fun _ _ _ h => h) (Or.inr ⟨by rfl, rfl⟩) SW ?_
                go_simp
                refine wpAnyH_take (i := 33) (v := undef) rfl (by kernel_rfl) (by kernel_rfl) (by kernel_rfl) (fun _ _ _ h => h) (Or.inr ⟨by rfl, rfl⟩) SW ?_
                go_simp
                refine wpAnyH_take (i := 34) (v := undef) rfl (by kernel_rfl) (by kernel_rfl) (by kernel_rfl) (fun _ _ _ h => h) (Or.inr ⟨by rfl, rfl⟩) SW ?_
                go_simp
                refine wpAnyH_take (i := 35) (v := undef) rfl (by kernel_rfl) (by kernel_rfl) (by kernel_rfl) (fun _ _ _ h => h) (Or.inr ⟨by rfl, rfl⟩) SW ?_
                go_simp
                refine wpAnyH_take (i := 36) (v := undef) rfl (by kernel_rfl) (by kernel_rfl) (by kernel_rfl) (fun _ _ _ h => h) (Or.inr ⟨by rfl, rfl⟩) SW ?_
                go_simp
                refine wpAnyH_take (i := 37) (v := undef) rfl (by kernel_rfl) (by kernel_rfl) (by kernel_rfl) (fun _ _ _ h => h) (Or.inr ⟨by rfl, rfl⟩) SW ?_
                go_simp
                refine wpAnyH_take (i := 38) (v := undef) rfl (by kernel_rfl) (by kernel_rfl) (by kernel_rfl) (fun _ _ _ h => h) (Or.inr ⟨by rfl, rfl⟩) SW ?_
                go_simp
                refine wpAnyH_take (i := 39) (v := undef) rfl (by kernel_rfl) (by kernel_rfl) (by kernel_rfl) (fun _ _ _ h => h) (Or.inr ⟨by rfl, rfl⟩) SW ?_
                go_simp
                refine wpAnyH_take (i := 40) (v := .bool true) rfl (by kernel_rfl) (by kernel_rfl) (by kernel_rfl) (fun _ _ _ h => h) (Or.inl ⟨by rfl, ?_⟩) SW ?_
                · intro W4 hW4
                  go_simp <;> first | done | rfl | (rw [IntKind.wrap_i64]; omega) | omega
                go_simp
                refine wpAnyH_done (by kernel_rfl) ?_ _
                go_wp2_with fail
                go_meet
                case rel => exact ⟨by rw [HBV.out], rfl⟩
              · have hqz : ((q : Int) == 0) = false := by simp; omega
                have hm33 : (m : Int) < 33 := by omega
                have hq33 : (q : Int) < 33 := by omega
                by_cases c3 : own3 zm = 3 - t
                · have how : (((own3 zm : Nat) : Int) != ((3 - t : Nat) : Int)) = false := by rw [c3]; simp
                  by_cases c4 : ov.contains m = true
                  · have hat := c4
                    have HBV : Hid (bd = true) := hide (by rw [← hbd, decide_eq_true_eq]; exact fun k => by rw [k.2.2.2.1] at c4; cases c4)
                    clear c4 hbd
                    refine wp_region_held (S := fun W4 => Below wr.heap.size wr W4) (by kernel_rfl) ?_
                    change wpAnyH _ _ _ _ _ _ _ _ (World.drew _)
                    have SW : Below wr.heap.size wr wr.drew := (Below.refl _ wr).drew
                    refine wpAnyH_take (i := 0) (v := .int .i64 pc) rfl (by kernel_rfl) (by kernel_rfl) (by kernel_rfl) (fun _ _ _ h => h) (Or.inl ⟨by rfl, ?_⟩) SW ?_
                    · intro W4 hW4
                      go_simp <;> first | done | rfl | (rw [IntKind.wrap_i64]; omega) | omega
                    go_simp
                    refine wpAnyH_take (i := 1) (v := .int .i64 y) rfl (by kernel_rfl) (by kernel_rfl) (by kernel_rfl) (fun _ _ _ h => h) (Or.inl ⟨by rfl, ?_⟩) SW ?_
                    · intro W4 hW4
                      go_simp <;> first | done | rfl | (rw [IntKind.wrap_i64]; omega) | omega
                    go_simp
                    refine wpAnyH_ready (rs := [2]) (by kernel_rfl) (by simp) ?_
                    refine AllReadyH.cons rfl (fun K1 hK1 => ?_) AllReadyH.nil
                    go_simp
                    refine (HFW.out _).mono ?_
                    rintro r w5 ⟨rfl, hw5⟩
                    subst w5
                    rw [hfw]
                    refine hK1.out _ _ SW (fun SW => ?_)
                    clear hK1 K1
                    go_simp
                    refine wpAnyH_take (i := 3) (v := .bool false) rfl (by kernel_rfl) (by kernel_rfl) (by kernel_rfl) (fun _ _ _ h => h) (Or.inl ⟨by rfl, ?_⟩) SW ?_
                    · intro W4 hW4
                      go_simp <;> first | done | rfl | (rw [IntKind.wrap_i64]; omega) | omega
                    go_simp
                    refine wpAnyH_take (i := 4) (v := .bool false) rfl (by kernel_rfl) (by kernel_rfl) (by kernel_rfl) (fun _ _ _ h => h) (Or.inl ⟨by rfl, ?_⟩) SW ?_
                    · intro W4 hW4
                      go_simp <;> first | done | rfl | (rw [IntKind.wrap_i64]; omega) | omega
                    go_simp
                    refine wpAnyH_take (i := 5) (v := .int .i64 (q : Nat)) rfl (by kernel_rfl) (by kernel_rfl) (by kernel_rfl) (fun _ _ _ h => h) (Or.inl ⟨by rfl, ?_⟩) SW ?_
                    · intro W4 hW4
                      go_simp <;> first | done | rfl | (rw [IntKind.wrap_i64]; omega) | omega
                    go_simp
                    refine wpAnyH_take (i := 6) (v := .bool false) rfl (by kernel_rfl) (by kernel_rfl) (by kernel_rfl) (fun _ _ _ h => h) (Or.inl ⟨by rfl, ?_⟩) SW ?_
                    · intro W4 hW4
                      have x0 := hqz
                      go_simp <;> first | done | rfl | (rw [IntKind.wrap_i64]; omega) | omega
                    go_simp
                    refine wpAnyH_take (i := 7) (v := .bool false) rfl (by kernel_rfl) (by kernel_rfl) (by kernel_rfl) (fun _ _ _ h => h) (Or.inl ⟨by rfl, ?_⟩) SW ?_
                    · intro W4 hW4
                      go_simp <;> first | done | rfl | (rw [IntKind.wrap_i64]; omega) | omega
                    go_simp
                    refine wpAnyH_take (i := 8) (v := .bool false) rfl (by kernel_rfl) (by kernel_rfl) (by kernel_rfl) (fun _ _ _ h => h) (Or.inl ⟨by rfl, ?_⟩) SW ?_
                    · intro W4 hW4
                      go_simp <;> first | done | rfl | (rw [IntKind.wrap_i64]; omega) | omega
                    go_simp
                    refine wpAnyH_take (i := 9) (v := .pointer (some ⟨w.heap.size, 0, none⟩)) rfl (by kernel_rfl) (by kernel_rfl) (by kernel_rfl) (fun _ _ _ h => h) (Or.inl ⟨by rfl, ?_⟩) SW ?_
                    · intro W4 hW4
                      go_simp <;> first | done | rfl | (rw [IntKind.wrap_i64]; omega) | omega
                    go_simp
                    refine wpAnyH_take (i := 10) (v := .slice (some ⟨bz, oz, none⟩) 33 cz) rfl (by kernel_rfl) (by kernel_rfl) (by kernel_rfl) (fun _ _ _ h => h) (Or.inl ⟨by rfl, ?_⟩) SW ?_
                    · intro W4 hW4
                      have x0 := (HFC.out W4 hW4).1
                      go_simp <;> first | done | rfl | (rw [IntKind.wrap_i64]; omega) | omega
                    go_simp
                    refine wpAnyH_take (i := 11) (v := .int .i64 (m : Nat)) rfl (by kernel_rfl) (by kernel_rfl) (by kernel_rfl) (fun _ _ _ h => h) (Or.inl ⟨by rfl, ?_⟩) SW ?_
                    · intro W4 hW4
                      go_simp <;> first | done | rfl | (rw [IntKind.wrap_i64]; omega) | omega
                    go_simp
                    refine wpAnyH_take (i := 12) (v := .pointer (some ⟨bz, oz + m, none⟩)) rfl (by kernel_rfl) (by kernel_rfl) (by kernel_rfl) (fun _ _ _ h => h) (Or.inl ⟨by rfl, ?_⟩) SW ?_
                    · intro W4 hW4
                      have x0 := hm33
                      go_simp <;> first | done | rfl | (rw [IntKind.wrap_i64]; omega) | omega
                    go_simp
                    refine wpAnyH_take (i := 13) (v := .int .i64 zm) rfl (by kernel_rfl) (by kernel_rfl) (by kernel_rfl) (fun _ _ _ h => h) (Or.inl ⟨by rfl, ?_⟩) SW ?_
                    · intro W4 hW4
                      have x0 := (HFC.out W4 hW4).2.2.1
                      go_simp <;> first | done | rfl | (rw [IntKind.wrap_i64]; omega) | omega
                    go_simp
                    refine wpAnyH_take (i := 15) (v := .pointer (some ⟨w.heap.size, 1, none⟩)) rfl (by kernel_rfl) (by kernel_rfl) (by kernel_rfl) (fun _ _ _ h => h) (Or.inl ⟨by rfl, ?_⟩) SW ?_
                    · intro W4 hW4
                      go_simp <;> first | done | rfl | (rw [IntKind.wrap_i64]; omega) | omega
                    go_simp
                    refine wpAnyH_take (i := 16) (v := .int .i64 (t : Nat)) rfl (by kernel_rfl) (by kernel_rfl) (by kernel_rfl) (fun _ _ _ h => h) (Or.inl ⟨by rfl, ?_⟩) SW ?_
                    · intro W4 hW4
                      have x0 := (HFC.out W4 hW4).2.1
                      go_simp <;> first | done | rfl | (rw [IntKind.wrap_i64]; omega) | omega
                    go_simp
                    refine wpAnyH_take (i := 17) (v := .int .i64 ((3 - t : Nat) : Int)) rfl (by kernel_rfl) (by kernel_rfl) (by kernel_rfl) (fun _ _ _ h => h) (Or.inl ⟨by rfl, ?_⟩) SW ?_
                    · intro W4 hW4
                      have x0 := ht3
                      go_simp <;> first | done | rfl | (rw [IntKind.wrap_i64]; omega) | omega
                    go_simp
                    refine wpAnyH_ready (rs := [14]) (by kernel_rfl) (by simp) ?_
                    refine AllReadyH.cons rfl (fun K1 hK1 => ?_) AllReadyH.nil
                    go_simp
                    refine (HOW.out _).mono ?_
                    rintro r w5 ⟨rfl, hw5⟩
                    subst w5
                    refine hK1.out _ _ SW (fun SW => ?_)
                    clear hK1 K1
                    go_simp
                    refine wpAnyH_take (i := 18) (v := .bool false) rfl (by kernel_rfl) (by kernel_rfl) (by kernel_rfl) (fun _ _ _ h => h) (Or.inl ⟨by rfl, ?_⟩) SW ?_
                    · intro W4 hW4
                      have x0 := how
                      go_simp <;> first | done | rfl | (rw [IntKind.wrap_i64]; omega) | omega
                    go_simp
                    refine wpAnyH_take (i := 19) (v := .bool false) rfl (by kernel_rfl) (by kernel_rfl) (by kernel_rfl) (fun _ _ _ h => h) (Or.inl ⟨by rfl, ?_⟩) SW ?_
                    · intro W4 hW4
                      go_simp <;> first | done | rfl | (rw [IntKind.wrap_i64]; omega) | omega
                    go_simp
                    refine wpAnyH_take (i := 20) (v := .bool false) rfl (by kernel_rfl) (by kernel_rfl) (by kernel_rfl) (fun _ _ _ h => h) (Or.inl ⟨by rfl, ?_⟩) SW ?_
                    · intro W4 hW4
                      go_simp <;> first | done | rfl | (rw [IntKind.wrap_i64]; omega) | omega
                    go_simp
                    refine wpAnyH_take (i := 21) (v := .slice ao nO co) rfl (by kernel_rfl) (by kernel_rfl) (by kernel_rfl) (fun _ _ _ h => h) (Or.inl ⟨by rfl, ?_⟩) SW ?_
                    · intro W4 hW4
                      go_simp <;> first | done | rfl | (rw [IntKind.wrap_i64]; omega) | omega
                    go_simp
                    refine wpAnyH_take (i := 22) (v := .int .i64 (m : Nat)) rfl (by kernel_rfl) (by kernel_rfl) (by kernel_rfl) (fun _ _ _ h => h) (Or.inl ⟨by rfl, ?_⟩) SW ?_
                    · intro W4 hW4
                      go_simp <;> first | done | rfl | (rw [IntKind.wrap_i64]; omega) | omega
                    go_simp
                    refine wpAnyH_ready (rs := [23]) (by kernel_rfl) (by simp) ?_
                    refine AllReadyH.cons rfl (fun K1 hK1 => ?_) AllReadyH.nil
                    go_simp
                    refine (HAT.out _ (HO2.out.mono SW)).mono ?_
                    rintro r w5 ⟨⟨ra, rfl, hra1, hra2, hra3⟩, hw5⟩
                    subst w5
                    have hra : ra ≥ 0 := hra3.2 (HTM1.out.2 hat)
                    clear hra3
                    refine hK1.out _ _ SW (fun SW => ?_)
                    clear hK1 K1
                    go_simp
                    refine wpAnyH_take (i := 24) (v := .bool true) rfl (by kernel_rfl) (by kernel_rfl) (by kernel_rfl) (fun _ _ _ h => h) (Or.inl ⟨by rfl, ?_⟩) SW ?_
                    · intro W4 hW4
                      have x0 := hra
                      go_simp <;> first | done | rfl | (rw [IntKind.wrap_i64]; omega) | omega
                    go_simp
                    refine wpAnyH_take (i := 25) (v := .bool true) rfl (by kernel_rfl) (by kernel_rfl) (by kernel_rfl) (fun _ _ _ h => h) (Or.inl ⟨by rfl, ?_⟩) SW ?_
                    · intro W4 hW4
                      go_simp <;> first | done | rfl | (rw [IntKind.wrap_i64]; omega) | omega
                    go_simp
                    refine wpAnyH_take (i := 26) (v := .bool true) rfl (by kernel_rfl) (by kernel_rfl) (by kernel_rfl) (fun _ _ _ h => h) (Or.inl ⟨by rfl, ?_⟩) SW ?_
                    · intro W4 hW4
                      go_simp <;> first | done | rfl | (rw [IntKind.wrap_i64]; omega) | omega
                    go_simp
                    refine wpAnyH_take (i := 27) (v := undef) rfl (by kernel_rfl) (by kernel_rfl) (by kernel_rfl) (fun _ _ _ h => h) (Or.inr ⟨by rfl, rfl⟩) SW ?_
                    go_simp
                    refine wpAnyH_take (i := 28) (v := undef) rfl (by kernel_rfl) (by kernel_rfl) (by kernel_rfl) (fun _ _ _ h => h) (Or.inr ⟨by rfl, rfl⟩) SW ?_
                    go_simp
                    refine wpAnyH_take (i := 29) (v := undef) rfl (by kernel_rfl) (by kernel_rfl) (by kernel_rfl) (fun _ _ _ h => h) (Or.inr ⟨by rfl, rfl⟩) SW ?_
                    go_simp
                    refine wpAnyH_take (i := 30) (v := undef) rfl (by kernel_rfl) (by kernel_rfl) (by kernel_rfl) (fun _ _ _ h => h) (Or.inr ⟨by rfl, rfl⟩) SW ?_
                    go_simp
                    refine wpAnyH_take (i := 31) (v := undef) rfl (by kernel_rfl) (by kernel_rfl) (by kernel_rfl) (fun _ _ _ h => h) (Or.inr ⟨by rfl, rfl⟩) SW ?_
                    go_simp
                    refine wpAnyH_take (i := 32) (v := undef) rfl (by kernel_rfl) (by kernel_rfl) (by kernel_rfl) (fun _ _ _ h => h) (Or.inr ⟨by rfl, rfl⟩) SW ?_
                    go_simp
                    refine wpAnyH_take (i := 33) (v := undef) rfl (by kernel_rfl) (by kernel_rfl) (by kernel_rfl) (fun _ _ _ h => h) (Or.inr ⟨by rfl, rfl⟩) SW ?_
                    go_simp
                    refine wpAnyH_take (i := 34) (v := undef) rfl (by kernel_rfl) (by kernel_rfl) (by kernel_rfl) (fun _ _ _ h => h) (Or.inr ⟨by rfl, rfl⟩) SW ?_
                    go_simp
                    refine wpAnyH_take (i := 35) (v := undef) rfl (by kernel_rfl) (by kernel_rfl) (by kernel_rfl) (fun _ _ _ h => h) (Or.inr ⟨by rfl, rfl⟩) SW ?_
                    go_simp
                    refine wpAnyH_take (i := 36) (v := undef) rfl (by kernel_rfl) (by kernel_rfl) (by kernel_rfl) (fun _ _ _ h => h) (Or.inr ⟨by rfl, rfl⟩) SW ?_
                    go_simp
                    refine wpAnyH_take (i := 37) (v := undef) rfl (by kernel_rfl) (by kernel_rfl) (by kernel_rfl) (fun _ _ _ h => h) (Or.inr ⟨by rfl, rfl⟩) SW ?_
                    go_simp
                    refine wpAnyH_take (i := 38) (v := undef) rfl (by kernel_rfl) (by kernel_rfl) (by kernel_rfl) (fun _ _ _ h => h) (Or.inr ⟨by rfl, rfl⟩) SW ?_
                    go_simp
                    refine wpAnyH_take (i := 39) (v := undef) rfl (by kernel_rfl) (by kernel_rfl) (by kernel_rfl) (fun _ _ _ h => h) (Or.inr ⟨by rfl, rfl⟩) SW ?_
                    go_simp
                    refine wpAnyH_take (i := 40) (v := .bool true) rfl (by kernel_rfl) (by kernel_rfl) (by kernel_rfl) (fun _ _ _ h => h) (Or.inl ⟨by rfl, ?_⟩) SW ?_
                    · intro W4 hW4
                      go_simp <;> first | done | rfl | (rw [IntKind.wrap_i64]; omega) | omega
                    go_simp
                    refine wpAnyH_done (by kernel_rfl) ?_ _
                    go_wp2_with fail
                    go_meet
                    case rel => exact ⟨by rw [HBV.out], rfl⟩
                  · have hat : ov.contains m = false := by simpa using c4
                    by_cases c5 : zq = 0
                    · have hzq : (zq != 0) = false := by rw [c5]; rfl
                      have HBV : Hid (bd = false) := hide (by rw [← hbd, decide_eq_false_iff_not]; exact fun k => k ⟨c1, c2, c3, hat, Or.inl c5⟩)
                      clear c5 hbd
                      refine wp_region_held (S := fun W4 => Below wr.heap.size wr W4) (by kernel_rfl) ?_
                      change wpAnyH _ _ _ _ _ _ _ _ (World.drew _)
                      have SW : Below wr.heap.size wr wr.drew := (Below.refl _ wr).drew
                      refine wpAnyH_take (i := 0) (v := .int .i64 pc) rfl (by kernel_rfl) (by kernel_rfl) (by kernel_rfl) (fun _ _ _ h => h) (Or.inl ⟨by rfl, ?_⟩) SW ?_
                      · intro W4 hW4
                        go_simp <;> first | done | rfl | (rw [IntKind.wrap_i64]; omega) | omega
                      go_simp
                      refine wpAnyH_take (i := 1) (v := .int .i64 y) rfl (by kernel_rfl) (by kernel_rfl) (by kernel_rfl) (fun _ _ _ h => h) (Or.inl ⟨by rfl, ?_⟩) SW ?_
                      · intro W4 hW4
                        go_simp <;> first | done | rfl | (rw [IntKind.wrap_i64]; omega) | omega
                      go_simp
                      refine wpAnyH_ready (rs := [2]) (by kernel_rfl) (by simp) ?_
                      refine AllReadyH.cons rfl (fun K1 hK1 => ?_) AllReadyH.nil
                      go_simp
                      refine (HFW.out _).mono ?_
                      rintro r w5 ⟨rfl, hw5⟩
                      subst w5
                      rw [hfw]
                      refine hK1.out _ _ SW (fun SW => ?_)
                      clear hK1 K1
                      go_simp
                      refine wpAnyH_take (i := 3) (v := .bool false) rfl (by kernel_rfl) (by kernel_rfl) (by kernel_rfl) (fun _ _ _ h => h) (Or.inl ⟨by rfl, ?_⟩) SW ?_
                      · intro W4 hW4
                        go_simp <;> first | done | rfl | (rw [IntKind.wrap_i64]; omega) | omega
                      go_simp
                      refine wpAnyH_take (i := 4) (v := .bool false) rfl (by kernel_rfl) (by kernel_rfl) (by kernel_rfl) (fun _ _ _ h => h) (Or.inl ⟨by rfl, ?_⟩) SW ?_
                      · intro W4 hW4
                        go_simp <;> first | done | rfl | (rw [IntKind.wrap_i64]; omega) | omega
                      go_simp
                      refine wpAnyH_take (i := 5) (v := .int .i64 (q : Nat)) rfl (by kernel_rfl) (by kernel_rfl) (by kernel_rfl) (fun _ _ _ h => h) (Or.inl ⟨by rfl, ?_⟩) SW ?_
                      · intro W4 hW4
                        go_simp <;> first | done | rfl | (rw [IntKind.wrap_i64]; omega) | omega
                      go_simp
                      refine wpAnyH_take (i := 6) (v := .bool false) rfl (by kernel_rfl) (by kernel_rfl) (by kernel_rfl) (fun _ _ _ h => h) (Or.inl ⟨by rfl, ?_⟩) SW ?_
                      · intro W4 hW4
                        have x0 := hqz
                        go_simp <;> first | done | rfl | (rw [IntKind.wrap_i64]; omega) | omega
                      go_simp
                      refine wpAnyH_take (i := 7) (v := .bool false) rfl (by kernel_rfl) (by kernel_rfl) (by kernel_rfl) (fun _ _ _ h => h) (Or.inl ⟨by rfl, ?_⟩) SW ?_
                      · intro W4 hW4
                        go_simp <;> first | done | rfl | (rw [IntKind.wrap_i64]; omega) | omega
                      go_simp
                      refine wpAnyH_take (i := 8) (v := .bool false) rfl (by kernel_rfl) (by kernel_rfl) (by kernel_rfl) (fun _ _ _ h => h) (Or.inl ⟨by rfl, ?_⟩) SW ?_
                      · intro W4 hW4
                        go_simp <;> first | done | rfl | (rw [IntKind.wrap_i64]; omega) | omega
                      go_simp
                      refine wpAnyH_take (i := 9) (v := .pointer (some ⟨w.heap.size, 0, none⟩)) rfl (by kernel_rfl) (by kernel_rfl) (by kernel_rfl) (fun _ _ _ h => h) (Or.inl ⟨by rfl, ?_⟩) SW ?_
                      · intro W4 hW4
                        go_simp <;> first | done | rfl | (rw [IntKind.wrap_i64]; omega) | omega
                      go_simp
                      refine wpAnyH_take (i := 10) (v := .slice (some ⟨bz, oz, none⟩) 33 cz) rfl (by kernel_rfl) (by kernel_rfl) (by kernel_rfl) (fun _ _ _ h => h) (Or.inl ⟨by rfl, ?_⟩) SW ?_
                      · intro W4 hW4
                        have x0 := (HFC.out W4 hW4).1
                        go_simp <;> first | done | rfl | (rw [IntKind.wrap_i64]; omega) | omega
                      go_simp
                      refine wpAnyH_take (i := 11) (v := .int .i64 (m : Nat)) rfl (by kernel_rfl) (by kernel_rfl) (by kernel_rfl) (fun _ _ _ h => h) (Or.inl ⟨by rfl, ?_⟩) SW ?_
                      · intro W4 hW4
                        go_simp <;> first | done | rfl | (rw [IntKind.wrap_i64]; omega) | omega
                      go_simp
                      refine wpAnyH_take (i := 12) (v := .pointer (some ⟨bz, oz + m, none⟩)) rfl (by kernel_rfl) (by kernel_rfl) (by kernel_rfl) (fun _ _ _ h => h) (Or.inl ⟨by rfl, ?_⟩) SW ?_
                      · intro W4 hW4
                        have x0 := hm33
                        go_simp <;> first | done | rfl | (rw [IntKind.wrap_i64]; omega) | omega
                      go_simp
                      refine wpAnyH_take (i := 13) (v := .int .i64 zm) rfl (by kernel_rfl) (by kernel_rfl) (by kernel_rfl) (fun _ _ _ h => h) (Or.inl ⟨by rfl, ?_⟩) SW ?_
                      · intro W4 hW4
                        have x0 := (HFC.out W4 hW4).2.2.1
                        go_simp <;> first | done | rfl | (rw [IntKind.wrap_i64]; omega) | omega
                      go_simp
                      refine wpAnyH_take (i := 15) (v := .pointer (some ⟨w.heap.size, 1, none⟩)) rfl (by kernel_rfl) (by kernel_rfl) (by kernel_rfl) (fun _ _ _ h => h) (Or.inl ⟨by rfl, ?_⟩) SW ?_
                      · intro W4 hW4
                        go_simp <;> first | done | rfl | (rw [IntKind.wrap_i64]; omega) | omega
                      go_simp
                      refine wpAnyH_take (i := 16) (v := .int .i64 (t : Nat)) rfl (by kernel_rfl) (by kernel_rfl) (by kernel_rfl) (fun _ _ _ h => h) (Or.inl ⟨by rfl, ?_⟩) SW ?_
                      · intro W4 hW4
                        have x0 := (HFC.out W4 hW4).2.1
                        go_simp <;> first | done | rfl | (rw [IntKind.wrap_i64]; omega) | omega
                      go_simp
                      refine wpAnyH_take (i := 17) (v := .int .i64 ((3 - t : Nat) : Int)) rfl (by kernel_rfl) (by kernel_rfl) (by kernel_rfl) (fun _ _ _ h => h) (Or.inl ⟨by rfl, ?_⟩) SW ?_
                      · intro W4 hW4
                        have x0 := ht3
                        go_simp <;> first | done | rfl | (rw [IntKind.wrap_i64]; omega) | omega
                      go_simp
                      refine wpAnyH_ready (rs := [14]) (by kernel_rfl) (by simp) ?_
                      refine AllReadyH.cons rfl (fun K1 hK1 => ?_) AllReadyH.nil
                      go_simp
                      refine (HOW.out _).mono ?_
                      rintro r w5 ⟨rfl, hw5⟩
                      subst w5
                      refine hK1.out _ _ SW (fun SW => ?_)
                      clear hK1 K1
                      go_simp
                      refine wpAnyH_take (i := 18) (v := .bool false) rfl (by kernel_rfl) (by kernel_rfl) (by kernel_rfl) (fun _ _ _ h => h) (Or.inl ⟨by rfl, ?_⟩) SW ?_
                      · intro W4 hW4
                        have x0 := how
                        go_simp <;> first | done | rfl | (rw [IntKind.wrap_i64]; omega) | omega
                      go_simp
                      refine wpAnyH_take (i := 19) (v := .bool false) rfl (by kernel_rfl) (by kernel_rfl) (by kernel_rfl) (fun _ _ _ h => h) (Or.inl ⟨by rfl, ?_⟩) SW ?_
                      · intro W4 hW4
                        go_simp <;> first | done | rfl | (rw [IntKind.wrap_i64]; omega) | omega
                      go_simp
                      refine wpAnyH_take (i := 20) (v := .bool false) rfl (by kernel_rfl) (by kernel_rfl) (by kernel_rfl) (fun _ _ _ h => h) (Or.inl ⟨by rfl, ?_⟩) SW ?_
                      · intro W4 hW4
                        go_simp <;> first | done | rfl | (rw [IntKind.wrap_i64]; omega) | omega
                      go_simp
                      refine wpAnyH_take (i := 21) (v := .slice ao nO co) rfl (by kernel_rfl) (by kernel_rfl) (by kernel_rfl) (fun _ _ _ h => h) (Or.inl ⟨by rfl, ?_⟩) SW ?_
                      · intro W4 hW4
                        go_simp <;> first | done | rfl | (rw [IntKind.wrap_i64]; omega) | omega
                      go_simp
                      refine wpAnyH_take (i := 22) (v := .int .i64 (m : Nat)) rfl (by kernel_rfl) (by kernel_rfl) (by kernel_rfl) (fun _ _ _ h => h) (Or.inl ⟨by rfl, ?_⟩) SW ?_
                      · intro W4 hW4
                        go_simp <;> first | done | rfl | (rw [IntKind.wrap_i64]; omega) | omega
                      go_simp
                      refine wpAnyH_ready (rs := [23]) (by kernel_rfl) (by simp) ?_
                      refine AllReadyH.cons rfl (fun K1 hK1 => ?_) AllReadyH.nil
                      go_simp
                      refine (HAT.out _ (HO2.out.mono SW)).mono ?_
                      rintro r w5 ⟨⟨ra, rfl, hra1, hra2, hra3⟩, hw5⟩
                      subst w5
                      have hra : ¬ ra ≥ 0 := fun k => by have := HTM1.out.1 (hra3.1 k); rw [hat] at this; cases this
                      clear hra3
                      refine hK1.out _ _ SW (fun SW => ?_)
                      clear hK1 K1
                      go_simp
                      refine wpAnyH_take (i := 24) (v := .bool false) rfl (by kernel_rfl) (by kernel_rfl) (by kernel_rfl) (fun _ _ _ h => h) (Or.inl ⟨by rfl, ?_⟩) SW ?_
                      · intro W4 hW4
                        have x0 := hra
                        go_simp <;> first | done | rfl | (rw [IntKind.wrap_i64]; omega) | omega
                      go_simp
                      refine wpAnyH_take (i := 25) (v := .bool false) rfl (by kernel_rfl) (by kernel_rfl) (by kernel_rfl) (fun _ _ _ h => h) (Or.inl ⟨by rfl, ?_⟩) SW ?_
                      · intro W4 hW4
                        go_simp <;> first | done | rfl | (rw [IntKind.wrap_i64]; omega) | omega
                      go_simp
                      refine wpAnyH_take (i := 26) (v := .bool false) rfl (by kernel_rfl) (by kernel_rfl) (by kernel_rfl) (fun _ _ _ h => h) (Or.inl ⟨by rfl, ?_⟩) SW ?_
                      · intro W4 hW4
                        go_simp <;> first | done | rfl | (rw [IntKind.wrap_i64]; omega) | omega
                      go_simp
                      refine wpAnyH_take (i := 27) (v := .pointer (some ⟨w.heap.size, 0, none⟩)) rfl (by kernel_rfl) (by kernel_rfl) (by kernel_rfl) (fun _ _ _ h => h) (Or.inl ⟨by rfl, ?_⟩) SW ?_
                      · intro W4 hW4
                        go_simp <;> first | done | rfl | (rw [IntKind.wrap_i64]; omega) | omega
                      go_simp
                      refine wpAnyH_take (i := 28) (v := .slice (some ⟨bz, oz, none⟩) 33 cz) rfl (by kernel_rfl) (by kernel_rfl) (by kernel_rfl) (fun _ _ _ h => h) (Or.inl ⟨by rfl, ?_⟩) SW ?_
                      · intro W4 hW4
                        have x0 := (HFC.out W4 hW4).1
                        go_simp <;> first | done | rfl | (rw [IntKind.wrap_i64]; omega) | omega
                      go_simp
                      refine wpAnyH_take (i := 29) (v := .int .i64 (q : Nat)) rfl (by kernel_rfl) (by kernel_rfl) (by kernel_rfl) (fun _ _ _ h => h) (Or.inl ⟨by rfl, ?_⟩) SW ?_
                      · intro W4 hW4
                        go_simp <;> first | done | rfl | (rw [IntKind.wrap_i64]; omega) | omega
                      go_simp
                      refine wpAnyH_take (i := 30) (v := .pointer (some ⟨bz, oz + q, none⟩)) rfl (by kernel_rfl) (by kernel_rfl) (by kernel_rfl) (fun _ _ _ h => h) (Or.inl ⟨by rfl, ?_⟩) SW ?_
                      · intro W4 hW4
                        have x0 := hq33
                        go_simp <;> first | done | rfl | (rw [IntKind.wrap_i64]; omega) | omega
                      go_simp
                      refine wpAnyH_take (i := 31) (v := .int .i64 zq) rfl (by kernel_rfl) (by kernel_rfl) (by kernel_rfl) (fun _ _ _ h => h) (Or.inl ⟨by rfl, ?_⟩) SW ?_
                      · intro W4 hW4
                        have x0 := (HFC.out W4 hW4).2.2.2.1
                        go_simp <;> first | done | rfl | (rw [IntKind.wrap_i64]; omega) | omega
                      go_simp
                      refine wpAnyH_take (i := 32) (v := .bool false) rfl (by kernel_rfl) (by kernel_rfl) (by kernel_rfl) (fun _ _ _ h => h) (Or.inl ⟨by rfl, ?_⟩) SW ?_
                      · intro W4 hW4
                        have x0 := hzq
                        go_simp <;> first | done | rfl | (rw [IntKind.wrap_i64]; omega) | omega
                      go_simp
                      refine wpAnyH_take (i := 33) (v := .bool false) rfl (by kernel_rfl) (by kernel_rfl) (by kernel_rfl) (fun _ _ _ h => h) (Or.inl ⟨by rfl, ?_⟩) SW ?_
                      · intro W4 hW4
                        go_simp <;> first | done | rfl | (rw [IntKind.wrap_i64]; omega) | omega
                      go_simp
                      refine wpAnyH_take (i := 34) (v := undef) rfl (by kernel_rfl) (by kernel_rfl) (by kernel_rfl) (fun _ _ _ h => h) (Or.inr ⟨by rfl, rfl⟩) SW ?_
                      go_simp
                      refine wpAnyH_take (i := 35) (v := undef) rfl (by kernel_rfl) (by kernel_rfl) (by kernel_rfl) (fun _ _ _ h => h) (Or.inr ⟨by rfl, rfl⟩) SW ?_
                      go_simp
                      refine wpAnyH_take (i := 36) (v := undef) rfl (by kernel_rfl) (by kernel_rfl) (by kernel_rfl) (fun _ _ _ h => h) (Or.inr ⟨by rfl, rfl⟩) SW ?_
                      go_simp
                      refine wpAnyH_take (i := 37) (v := undef) rfl (by kernel_rfl) (by kernel_rfl) (by kernel_rfl) (fun _ _ _ h => h) (Or.inr ⟨by rfl, rfl⟩) SW ?_
                      go_simp
                      refine wpAnyH_take (i := 38) (v := undef) rfl (by kernel_rfl) (by kernel_rfl) (by kernel_rfl) (fun _ _ _ h => h) (Or.inr ⟨by rfl, rfl⟩) SW ?_
                      go_simp
                      refine wpAnyH_take (i := 39) (v := .bool false) rfl (by kernel_rfl) (by kernel_rfl) (by kernel_rfl) (fun _ _ _ h => h) (Or.inl ⟨by rfl, ?_⟩) SW ?_
                      · intro W4 hW4
                        go_simp <;> first | done | rfl | (rw [IntKind.wrap_i64]; omega) | omega
                      go_simp
                      refine wpAnyH_take (i := 40) (v := .bool false) rfl (by kernel_rfl) (by kernel_rfl) (by kernel_rfl) (fun _ _ _ h => h) (Or.inl ⟨by rfl, ?_⟩) SW ?_
                      · intro W4 hW4
                        go_simp <;> first | done | rfl | (rw [IntKind.wrap_i64]; omega) | omega
                      go_simp
                      refine wpAnyH_done (by kernel_rfl) ?_ _
                      go_wp2_with fail
                      go_meet
                      case rel => exact ⟨by rw [HBV.out], rfl⟩
                    · have hzq : (zq != 0) = true := by simpa using c5
                      by_cases c6 : q = p0
                      · have hqp : ((q : Int) != (p0 : Int)) = false := by rw [c6]; simp
                        have HBV : Hid (bd = false) := hide (by rw [← hbd, decide_eq_false_iff_not]; exact fun k => k ⟨c1, c2, c3, hat, Or.inr c6⟩)
                        clear c6 c5 hbd
                        refine wp_region_held (S := fun W4 => Below wr.heap.size wr W4) (by kernel_rfl) ?_
                        change wpAnyH _ _ _ _ _ _ _ _ (World.drew _)
                        have SW : Below wr.heap.size wr wr.drew := (Below.refl _ wr).drew
                        refine wpAnyH_take (i := 0) (v := .int .i64 pc) rfl (by kernel_rfl) (by kernel_rfl) (by kernel_rfl) (fun _ _ _ h => h) (Or.inl ⟨by rfl, ?_⟩) SW ?_
                        · intro W4 hW4
                          go_simp <;> first | done | rfl | (rw [IntKind.wrap_i64]; omega) | omega
                        go_simp
                        refine wpAnyH_take (i := 1) (v := .int .i64 y) rfl (by kernel_rfl) (by kernel_rfl) (by kernel_rfl) (fun _ _ _ h => h) (Or.inl ⟨by rfl, ?_⟩) SW ?_
                        · intro W4 hW4
                          go_simp <;> first | done | rfl | (rw [IntKind.wrap_i64]; omega) | omega
                        go_simp
                        refine wpAnyH_ready (rs := [2]) (by kernel_rfl) (by simp) ?_
                        refine AllReadyH.cons rfl (fun K1 hK1 => ?_) AllReadyH.nil
                        go_simp
                        refine (HFW.out _).mono ?_
                        rintro r w5 ⟨rfl, hw5⟩
                        subst w5
                        rw [hfw]
                        refine hK1.out _ _ SW (fun SW => ?_)
                        clear hK1 K1
                        go_simp
                        refine wpAnyH_take (i := 3) (v := .bool false) rfl (by kernel_rfl) (by kernel_rfl) (by kernel_rfl) (fun _ _ _ h => h) (Or.inl ⟨by rfl, ?_⟩) SW ?_
                        · intro W4 hW4
                          go_simp <;> first | done | rfl | (rw [IntKind.wrap_i64]; omega) | omega
                        go_simp
                        refine wpAnyH_take (i := 4) (v := .bool false) rfl (by kernel_rfl) (by kernel_rfl) (by kernel_rfl) (fun _ _ _ h => h) (Or.inl ⟨by rfl, ?_⟩) SW ?_
                        · intro W4 hW4
                          go_simp <;> first | done | rfl | (rw [IntKind.wrap_i64]; omega) | omega
                        go_simp
                        refine wpAnyH_take (i := 5) (v := .int .i64 (q : Nat)) rfl (by kernel_rfl) (by kernel_rfl) (by kernel_rfl) (fun _ _ _ h => h) (Or.inl ⟨by rfl, ?_⟩) SW ?_
                        · intro W4 hW4
                          go_simp <;> first | done | rfl | (rw [IntKind.wrap_i64]; omega) | omega
                        go_simp
                        refine wpAnyH_take (i := 6) (v := .bool false) rfl (by kernel_rfl) (by kernel_rfl) (by kernel_rfl) (fun _ _ _ h => h) (Or.inl ⟨by rfl, ?_⟩) SW ?_
                        · intro W4 hW4
                          have x0 := hqz
                          go_simp <;> first | done | rfl | (rw [IntKind.wrap_i64]; omega) | omega
                        go_simp
                        refine wpAnyH_take (i := 7) (v := .bool false) rfl (by kernel_rfl) (by kernel_rfl) (by kernel_rfl) (fun _ _ _ h => h) (Or.inl ⟨by rfl, ?_⟩) SW ?_
                        · intro W4 hW4
                          go_simp <;> first | done | rfl | (rw [IntKind.wrap_i64]; omega) | omega
                        go_simp
                        refine wpAnyH_take (i := 8) (v := .bool false) rfl (by kernel_rfl) (by kernel_rfl) (by kernel_rfl) (fun _ _ _ h => h) (Or.inl ⟨by rfl, ?_⟩) SW ?_
                        · intro W4 hW4
                          go_simp <;> first | done | rfl | (rw [IntKind.wrap_i64]; omega) | omega
                        go_simp
                        refine wpAnyH_take (i := 9) (v := .pointer (some ⟨w.heap.size, 0, none⟩)) rfl (by kernel_rfl) (by kernel_rfl) (by kernel_rfl) (fun _ _ _ h => h) (Or.inl ⟨by rfl, ?_⟩) SW ?_
                        · intro W4 hW4
                          go_simp <;> first | done | rfl | (rw [IntKind.wrap_i64]; omega) | omega
                        go_simp
                        refine wpAnyH_take (i := 10) (v := .slice (some ⟨bz, oz, none⟩) 33 cz) rfl (by kernel_rfl) (by kernel_rfl) (by kernel_rfl) (fun _ _ _ h => h) (Or.inl ⟨by rfl, ?_⟩) SW ?_
                        · intro W4 hW4
                          have x0 := (HFC.out W4 hW4).1
                          go_simp <;> first | done | rfl | (rw [IntKind.wrap_i64]; omega) | omega
                        go_simp
                        refine wpAnyH_take (i := 11) (v := .int .i64 (m : Nat)) rfl (by kernel_rfl) (by kernel_rfl) (by kernel_rfl) (fun _ _ _ h => h) (Or.inl ⟨by rfl, ?_⟩) SW ?_
                        · intro W4 hW4
                          go_simp <;> first | done | rfl | (rw [IntKind.wrap_i64]; omega) | omega
                        go_simp
                        refine wpAnyH_take (i := 12) (v := .pointer (some ⟨bz, oz + m, none⟩)) rfl (by kernel_rfl) (by kernel_rfl) (by kernel_rfl) (fun _ _ _ h => h) (Or.inl ⟨by rfl, ?_⟩) SW ?_
                        · intro W4 hW4
                          have x0 := hm33
                          go_simp <;> first | done | rfl | (rw [IntKind.wrap_i64]; omega) | omega
                        go_simp
                        refine wpAnyH_take (i := 13) (v := .int .i64 zm) rfl (by kernel_rfl) (by kernel_rfl) (by kernel_rfl) (fun _ _ _ h => h) (Or.inl ⟨by rfl, ?_⟩) SW ?_
                        · intro W4 hW4
                          have x0 := (HFC.out W4 hW4).2.2.1
                          go_simp <;> first | done | rfl | (rw [IntKind.wrap_i64]; omega) | omega
                        go_simp
                        refine wpAnyH_take (i := 15) (v := .pointer (some ⟨w.heap.size, 1, none⟩)) rfl (by kernel_rfl) (by kernel_rfl) (by kernel_rfl) (fun _ _ _ h => h) (Or.inl ⟨by rfl, ?_⟩) SW ?_
                        · intro W4 hW4
                          go_simp <;> first | done | rfl | (rw [IntKind.wrap_i64]; omega) | omega
                        go_simp
                        refine wpAnyH_take (i := 16) (v := .int .i64 (t : Nat)) rfl (by kernel_rfl) (by kernel_rfl) (by kernel_rfl) (fun _ _ _ h => h) (Or.inl ⟨by rfl, ?_⟩) SW ?_
                        · intro W4 hW4
                          have x0 := (HFC.out W4 hW4).2.1
                          go_simp <;> first | done | rfl | (rw [IntKind.wrap_i64]; omega) | omega
                        go_simp
                        refine wpAnyH_take (i := 17) (v := .int .i64 ((3 - t : Nat) : Int)) rfl (by kernel_rfl) (by kernel_rfl) (by kernel_rfl) (fun _ _ _ h => h) (Or.inl ⟨by rfl, ?_⟩) SW ?_
                        · intro W4 hW4
                          have x0 := ht3
                          go_simp <;> first | done | rfl | (rw [IntKind.wrap_i64]; omega) | omega
                        go_simp
                        refine wpAnyH_ready (rs := [14]) (by kernel_rfl) (by simp) ?_
                        refine AllReadyH.cons rfl (fun K1 hK1 => ?_) AllReadyH.nil
                        go_simp
                        refine (HOW.out _).mono ?_
                        rintro r w5 ⟨rfl, hw5⟩
                        subst w5
                        refine hK1.out _ _ SW (fun SW => ?_)
                        clear hK1 K1
                        go_simp
                        refine wpAnyH_take (i := 18) (v := .bool false) rfl (by kernel_rfl) (by kernel_rfl) (by kernel_rfl) (fun _ _ _ h => h) (Or.inl ⟨by rfl, ?_⟩) SW ?_
                        · intro W4 hW4
                          have x0 := how
                          go_simp <;> first | done | rfl | (rw [IntKind.wrap_i64]; omega) | omega
                        go_simp
                        refine wpAnyH_take (i := 19) (v := .bool false) rfl (by kernel_rfl) (by kernel_rfl) (by kernel_rfl) (fun _ _ _ h => h) (Or.inl ⟨by rfl, ?_⟩) SW ?_
                        · intro W4 hW4
                          go_simp <;> first | done | rfl | (rw [IntKind.wrap_i64]; omega) | omega
                        go_simp
                        refine wpAnyH_take (i := 20) (v := .bool false) rfl (by kernel_rfl) (by kernel_rfl) (by kernel_rfl) (fun _ _ _ h => h) (Or.inl ⟨by rfl, ?_⟩) SW ?_
                        · intro W4 hW4
                          go_simp <;> first | done | rfl | (rw [IntKind.wrap_i64]; omega) | omega
                        go_simp
                        refine wpAnyH_take (i := 21) (v := .slice ao nO co) rfl (by kernel_rfl) (by kernel_rfl) (by kernel_rfl) (fun _ _ _ h => h) (Or.inl ⟨by rfl, ?_⟩) SW ?_
                        · intro W4 hW4
                          go_simp <;> first | done | rfl | (rw [IntKind.wrap_i64]; omega) | omega
                        go_simp
                        refine wpAnyH_take (i := 22) (v := .int .i64 (m : Nat)) rfl (by kernel_rfl) (by kernel_rfl) (by kernel_rfl) (fun _ _ _ h => h) (Or.inl ⟨by rfl, ?_⟩) SW ?_
                        · intro W4 hW4
                          go_simp <;> first | done | rfl | (rw [IntKind.wrap_i64]; omega) | omega
                        go_simp
                        refine wpAnyH_ready (rs := [23]) (by kernel_rfl) (by simp) ?_
                        refine AllReadyH.cons rfl (fun K1 hK1 => ?_) AllReadyH.nil
                        go_simp
                        refine (HAT.out _ (HO2.out.mono SW)).mono ?_
                        rintro r w5 ⟨⟨ra, rfl, hra1, hra2, hra3⟩, hw5⟩
                        subst w5
                        have hra : ¬ ra ≥ 0 := fun k => by have := HTM1.out.1 (hra3.1 k); rw [hat] at this; cases this
                        clear hra3
                        refine hK1.out _ _ SW (fun SW => ?_)
                        clear hK1 K1
                        go_simp
                        refine wpAnyH_take (i := 24) (v := .bool false) rfl (by kernel_rfl) (by kernel_rfl) (by kernel_rfl) (fun _ _ _ h => h) (Or.inl ⟨by rfl, ?_⟩) SW ?_
                        · intro W4 hW4
                          have x0 := hra
                          go_simp <;> first | done | rfl | (rw [IntKind.wrap_i64]; omega) | omega
                        go_simp
                        refine wpAnyH_take (i := 25) (v := .bool false) rfl (by kernel_rfl) (by kernel_rfl) (by kernel_rfl) (fun _ _ _ h => h) (Or.inl ⟨by rfl, ?_⟩) SW ?_
                        · intro W4 hW4
                          go_simp <;> first | done | rfl | (rw [IntKind.wrap_i64]; omega) | omega
                        go_simp
                        refine wpAnyH_take (i := 26) (v := .bool false) rfl (by kernel_rfl) (by kernel_rfl) (by kernel_rfl) (fun _ _ _ h => h) (Or.inl ⟨by rfl, ?_⟩) SW ?_
                        · intro W4 hW4
                          go_simp <;> first | done | rfl | (rw [IntKind.wrap_i64]; omega) | omega
                        go_simp
                        refine wpAnyH_take (i := 27) (v := .pointer (some ⟨w.heap.size, 0, none⟩)) rfl (by kernel_rfl) (by kernel_rfl) (by kernel_rfl) (fun _ _ _ h => h) (Or.inl ⟨by rfl, ?_⟩) SW ?_
                        · intro W4 hW4
                          go_simp <;> first | done | rfl | (rw [IntKind.wrap_i64]; omega) | omega
                        go_simp
                        refine wpAnyH_take (i := 28) (v := .slice (some ⟨bz, oz, none⟩) 33 cz) rfl (by kernel_rfl) (by kernel_rfl) (by kernel_rfl) (fun _ _ _ h => h) (Or.inl ⟨by rfl, ?_⟩) SW ?_
                        · intro W4 hW4
                          have x0 := (HFC.out W4 hW4).1
                          go_simp <;> first | done | rfl | (rw [IntKind.wrap_i64]; omega) | omega
                        go_simp
                        refine wpAnyH_take (i := 29) (v := .int .i64 (q : Nat)) rfl (by kernel_rfl) (by kernel_rfl) (by kernel_rfl) (fun _ _ _ h => h) (Or.inl ⟨by rfl, ?_⟩) SW ?_
                        · intro W4 hW4
                          go_simp <;> first | done | rfl | (rw [IntKind.wrap_i64]; omega) | omega
                        go_simp
                        refine wpAnyH_take (i := 30) (v := .pointer (some ⟨bz, oz + q, none⟩)) rfl (by kernel_rfl) (by kernel_rfl) (by kernel_rfl) (fun _ _ _ h => h) (Or.inl ⟨by rfl, ?_⟩) SW ?_
                        · intro W4 hW4
                          have x0 := hq33
                          go_simp <;> first | done | rfl | (rw [IntKind.wrap_i64]; omega) | omega
                        go_simp
                        refine wpAnyH_take (i := 31) (v := .int .i64 zq) rfl (by kernel_rfl) (by kernel_rfl) (by kernel_rfl) (fun _ _ _ h => h) (Or.inl ⟨by rfl, ?_⟩) SW ?_
                        · intro W4 hW4
                          have x0 := (HFC.out W4 hW4).2.2.2.1
                          go_simp <;> first | done | rfl | (rw [IntKind.wrap_i64]; omega) | omega
                        go_simp
                        refine wpAnyH_take (i := 32) (v := .bool true) rfl (by kernel_rfl) (by kernel_rfl) (by kernel_rfl) (fun _ _ _ h => h) (Or.inl ⟨by rfl, ?_⟩) SW ?_
                        · intro W4 hW4
                          have x0 := hzq
                          go_simp <;> first | done | rfl | (rw [IntKind.wrap_i64]; omega) | omega
                        go_simp
                        refine wpAnyH_take (i := 33) (v := .bool true) rfl (by kernel_rfl) (by kernel_rfl) (by kernel_rfl) (fun _ _ _ h => h) (Or.inl ⟨by rfl, ?_⟩) SW ?_
                        · intro W4 hW4
                          go_simp <;> first | done | rfl | (rw [IntKind.wrap_i64]; omega) | omega
                        go_simp
                        refine wpAnyH_take (i := 34) (v := .int .i64 (q : Nat)) rfl (by kernel_rfl) (by kernel_rfl) (by kernel_rfl) (fun _ _ _ h => h) (Or.inl ⟨by rfl, ?_⟩) SW ?_
                        · intro W4 hW4
                          go_simp <;> first | done | rfl | (rw [IntKind.wrap_i64]; omega) | omega
                        go_simp
                        refine wpAnyH_take (i := 35) (v := .slice (some ⟨bw, ow, none⟩) nW cw) rfl (by kernel_rfl) (by kernel_rfl) (by kernel_rfl) (fun _ _ _ h => h) (Or.inl ⟨by rfl, ?_⟩) SW ?_
                        · intro W4 hW4
                          go_simp <;> first | done | rfl | (rw [IntKind.wrap_i64]; omega) | omega
                        go_simp
                        refine wpAnyH_take (i := 36) (v := .pointer (some ⟨bw, ow, none⟩)) rfl (by kernel_rfl) (by kernel_rfl) (by kernel_rfl) (fun _ _ _ h => h) (Or.inl ⟨by rfl, ?_⟩) SW ?_
                        · intro W4 hW4
                          go_simp <;> first | done | rfl | (rw [IntKind.wrap_i64]; omega) | omega
                        go_simp
                        refine wpAnyH_take (i := 37) (v := .int .i64 (p0 : Nat)) rfl (by kernel_rfl) (by kernel_rfl) (by kernel_rfl) (fun _ _ _ h => h) (Or.inl ⟨by rfl, ?_⟩) SW ?_
                        · intro W4 hW4
                          have x0 := (HFC.out W4 hW4).2.2.2.2
                          go_simp <;> first | done | rfl | (rw [IntKind.wrap_i64]; omega) | omega
                        go_simp
                        refine wpAnyH_take (i := 38) (v := .bool false) rfl (by kernel_rfl) (by kernel_rfl) (by kernel_rfl) (fun _ _ _ h => h) (Or.inl ⟨by rfl, ?_⟩) SW ?_
                        · intro W4 hW4
                          have x0 := hqp
                          go_simp <;> first | done | rfl | (rw [IntKind.wrap_i64]; omega) | omega
                        go_simp
                        refine wpAnyH_take (i := 39) (v := .bool false) rfl (by kernel_rfl) (by kernel_rfl) (by kernel_rfl) (fun _ _ _ h => h) (Or.inl ⟨by rfl, ?_⟩) SW ?_
                        · intro W4 hW4
                          go_simp <;> first | done | rfl | (rw [IntKind.wrap_i64]; omega) | omega
                        go_simp
                        refine wpAnyH_take (i := 40) (v := .bool false) rfl (by kernel_rfl) (by kernel_rfl) (by kernel_rfl) (fun _ _ _ h => h) (Or.inl ⟨by rfl, ?_⟩) SW ?_
                        · intro W4 hW4
                          go_simp <;> first | done | rfl | (rw [IntKind.wrap_i64]; omega) | omega
                        go_simp
                        refine wpAnyH_done (by kernel_rfl) ?_ _
                        go_wp2_with fail
                        go_meet
                        case rel => exact ⟨by rw [HBV.out], rfl⟩
                      · have hqp : ((q : Int) != (p0 : Int)) = true := by simp; omega
                        have HBV : Hid (bd = true) := hide (by rw [← hbd, decide_eq_true_eq]; exact fun k => by rcases k.2.2.2.2 with k | k; exact c5 k; exact c6 k)
                        clear c6 c5 hbd
                        refine wp_region_held (S := fun W4 => Below wr.heap.size wr W4) (by kernel_rfl) ?_
                        change wpAnyH _ _ _ _ _ _ _ _ (World.drew _)
                        have SW : Below wr.heap.size wr wr.drew := (Below.refl _ wr).drew
                        refine wpAnyH_take (i := 0) (v := .int .i64 pc) rfl (by kernel_rfl) (by kernel_rfl) (by kernel_rfl) (fun _ _ _ h => h) (Or.inl ⟨by rfl, ?_⟩) SW ?_
                        · intro W4 hW4
                          go_simp <;> first | done | rfl | (rw [IntKind.wrap_i64]; omega) | omega
                        go_simp
                        refine wpAnyH_take (i := 1) (v := .int .i64 y) rfl (by kernel_rfl) (by kernel_rfl) (by kernel_rfl) (fun _ _ _ h => h) (Or.inl ⟨by rfl, ?_⟩) SW ?_
                        · intro W4 hW4
                          go_simp <;> first | done | rfl | (rw [IntKind.wrap_i64]; omega) | omega
                        go_simp
                        refine wpAnyH_ready (rs := [2]) (by kernel_rfl) (by simp) ?_
                        refine AllReadyH.cons rfl (fun K1 hK1 => ?_) AllReadyH.nil
                        go_simp
                        refine (HFW.out _).mono ?_
                        rintro r w5 ⟨rfl, hw5⟩
                        subst w5
                        rw [hfw]
                        refine hK1.out _ _ SW (fun SW => ?_)
                        clear hK1 K1
                        go_simp
                        refine wpAnyH_take (i := 3) (v := .bool false) rfl (by kernel_rfl) (by kernel_rfl) (by kernel_rfl) (fun _ _ _ h => h) (Or.inl ⟨by rfl, ?_⟩) SW ?_
                        · intro W4 hW4
                          go_simp <;> first | done | rfl | (rw [IntKind.wrap_i64]; omega) | omega
                        go_simp
                        refine wpAnyH_take (i := 4) (v := .bool false) rfl (by kernel_rfl) (by kernel_rfl) (by kernel_rfl) (fun _ _ _ h => h) (Or.inl ⟨by rfl, ?_⟩) SW ?_
                        · intro W4 hW4
                          go_simp <;> first | done | rfl | (rw [IntKind.wrap_i64]; omega) | omega
                        go_simp
                        refine wpAnyH_take (i := 5) (v := .int .i64 (q : Nat)) rfl (by kernel_rfl) (by kernel_rfl) (by kernel_rfl) (fun _ _ _ h => h) (Or.inl ⟨by rfl, ?_⟩) SW ?_
                        · intro W4 hW4
                          go_simp <;> first | done | rfl | (rw [IntKind.wrap_i64]; omega) | omega
                        go_simp
                        refine wpAnyH_take (i := 6) (v := .bool false) rfl (by kernel_rfl) (by kernel_rfl) (by kernel_rfl) (fun _ _ _ h => h) (Or.inl ⟨by rfl, ?_⟩) SW ?_
                        · intro W4 hW4
                          have x0 := hqz
                          go_simp <;> first | done | rfl | (rw [IntKind.wrap_i64]; omega) | omega
                        go_simp
                        refine wpAnyH_take (i := 7) (v := .bool false) rfl (by kernel_rfl) (by kernel_rfl) (by kernel_rfl) (fun _ _ _ h => h) (Or.inl ⟨by rfl, ?_⟩) SW ?_
                        · intro W4 hW4
                          go_simp <;> first | done | rfl | (rw [IntKind.wrap_i64]; omega) | omega
                        go_simp
                        refine wpAnyH_take (i := 8) (v := .bool false) rfl (by kernel_rfl) (by kernel_rfl) (by kernel_rfl) (fun _ _ _ h => h) (Or.inl ⟨by rfl, ?_⟩) SW ?_
                        · intro W4 hW4
                          go_simp <;> first | done | rfl | (rw [IntKind.wrap_i64]; omega) | omega
                        go_simp
                        refine wpAnyH_take (i := 9) (v := .pointer (some ⟨w.heap.size, 0, none⟩)) rfl (by kernel_rfl) (by kernel_rfl) (by kernel_rfl) (fun _ _ _ h => h) (Or.inl ⟨by rfl, ?_⟩) SW ?_
                        · intro W4 hW4
                          go_simp <;> first | done | rfl | (rw [IntKind.wrap_i64]; omega) | omega
                        go_simp
                        refine wpAnyH_take (i := 10) (v := .slice (some ⟨bz, oz, none⟩) 33 cz) rfl (by kernel_rfl) (by kernel_rfl) (by kernel_rfl) (fun _ _ _ h => h) (Or.inl ⟨by rfl, ?_⟩) SW ?_
                        · intro W4 hW4
                          have x0 := (HFC.out W4 hW4).1
                          go_simp <;> first | done | rfl | (rw [IntKind.wrap_i64]; omega) | omega
                        go_simp
                        refine wpAnyH_take (i := 11) (v := .int .i64 (m : Nat)) rfl (by kernel_rfl) (by kernel_rfl) (by kernel_rfl) (fun _ _ _ h => h) (Or.inl ⟨by rfl, ?_⟩) SW ?_
                        · intro W4 hW4
                          go_simp <;> first | done | rfl | (rw [IntKind.wrap_i64]; omega) | omega
                        go_simp
                        refine wpAnyH_take (i := 12) (v := .pointer (some ⟨bz, oz + m, none⟩)) rfl (by kernel_rfl) (by kernel_rfl) (by kernel_rfl) (fun _ _ _ h => h) (Or.inl ⟨by rfl, ?_⟩) SW ?_
                        · intro W4 hW4
                          have x0 := hm33
                          go_simp <;> first | done | rfl | (rw [IntKind.wrap_i64]; omega) | omega
                        go_simp
                        refine wpAnyH_take (i := 13) (v := .int .i64 zm) rfl (by kernel_rfl) (by kernel_rfl) (by kernel_rfl) (fun _ _ _ h => h) (Or.inl ⟨by rfl, ?_⟩) SW ?_
                        · intro W4 hW4
                          have x0 := (HFC.out W4 hW4).2.2.1
                          go_simp <;> first | done | rfl | (rw [IntKind.wrap_i64]; omega) | omega
                        go_simp
                        refine wpAnyH_take (i := 15) (v := .pointer (some ⟨w.heap.size, 1, none⟩)) rfl (by kernel_rfl) (by kernel_rfl) (by kernel_rfl) (fun _ _ _ h => h) (Or.inl ⟨by rfl, ?_⟩) SW ?_
                        · intro W4 hW4
                          go_simp <;> first | done | rfl | (rw [IntKind.wrap_i64]; omega) | omega
                        go_simp
                        refine wpAnyH_take (i := 16) (v := .int .i64 (t : Nat)) rfl (by kernel_rfl) (by kernel_rfl) (by kernel_rfl) (fun _ _ _ h => h) (Or.inl ⟨by rfl, ?_⟩) SW ?_
                        · intro W4 hW4
                          have x0 := (HFC.out W4 hW4).2.1
                          go_simp <;> first | done | rfl | (rw [IntKind.wrap_i64]; omega) | omega
                        go_simp
                        refine wpAnyH_take (i := 17) (v := .int .i64 ((3 - t : Nat) : Int)) rfl (by kernel_rfl) (by kernel_rfl) (by kernel_rfl) (fun _ _ _ h => h) (Or.inl ⟨by rfl, ?_⟩) SW ?_
                        · intro W4 hW4
                          have x0 := ht3
                          go_simp <;> first | done | rfl | (rw [IntKind.wrap_i64]; omega) | omega
                        go_simp
                        refine wpAnyH_ready (rs := [14]) (by kernel_rfl) (by simp) ?_
                        refine AllReadyH.cons rfl (fun K1 hK1 => ?_) AllReadyH.nil
                        go_simp
                        refine (HOW.out _).mono ?_
                        rintro r w5 ⟨rfl, hw5⟩
                        subst w5
                        refine hK1.out _ _ SW (fun SW => ?_)
                        clear hK1 K1
                        go_simp
                        refine wpAnyH_take (i := 18) (v := .bool false) rfl (by kernel_rfl) (by kernel_rfl) (by kernel_rfl) (fun _ _ _ h => h) (Or.inl ⟨by rfl, ?_⟩) SW ?_
                        · intro W4 hW4
                          have x0 := how
                          go_simp <;> first | done | rfl | (rw [IntKind.wrap_i64]; omega) | omega
                        go_simp
                        refine wpAnyH_take (i := 19) (v := .bool false) rfl (by kernel_rfl) (by kernel_rfl) (by kernel_rfl) (fun _ _ _ h => h) (Or.inl ⟨by rfl, ?_⟩) SW ?_
                        · intro W4 hW4
                          go_simp <;> first | done | rfl | (rw [IntKind.wrap_i64]; omega) | omega
                        go_simp
                        refine wpAnyH_take (i := 20) (v := .bool false) rfl (by kernel_rfl) (by kernel_rfl) (by kernel_rfl) (fun _ _ _ h => h) (Or.inl ⟨by rfl, ?_⟩) SW ?_
                        · intro W4 hW4
                          go_simp <;> first | done | rfl | (rw [IntKind.wrap_i64]; omega) | omega
                        go_simp
                        refine wpAnyH_take (i := 21) (v := .slice ao nO co) rfl (by kernel_rfl) (by kernel_rfl) (by kernel_rfl) (fun _ _ _ h => h) (Or.inl ⟨by rfl, ?_⟩) SW ?_
                        · intro W4 hW4
                          go_simp <;> first | done | rfl | (rw [IntKind.wrap_i64]; omega) | omega
                        go_simp
                        refine wpAnyH_take (i := 22) (v := .int .i64 (m : Nat)) rfl (by kernel_rfl) (by kernel_rfl) (by kernel_rfl) (fun _ _ _ h => h) (Or.inl ⟨by rfl, ?_⟩) SW ?_
                        · intro W4 hW4
                          go_simp <;> first | done | rfl | (rw [IntKind.wrap_i64]; omega) | omega
                        go_simp
                        refine wpAnyH_ready (rs := [23]) (by kernel_rfl) (by simp) ?_
                        refine AllReadyH.cons rfl (fun K1 hK1 => ?_) AllReadyH.nil
                        go_simp
                        refine (HAT.out _ (HO2.out.mono SW)).mono ?_
                        rintro r w5 ⟨⟨ra, rfl, hra1, hra2, hra3⟩, hw5⟩
                        subst w5
                        have hra : ¬ ra ≥ 0 := fun k => by have := HTM1.out.1 (hra3.1 k); rw [hat] at this; cases this
                        clear hra3
                        refine hK1.out _ _ SW (fun SW => ?_)
                        clear hK1 K1
                        go_simp
                        refine wpAnyH_take (i := 24) (v := .bool false) rfl (by kernel_rfl) (by kernel_rfl) (by kernel_rfl) (fun _ _ _ h => h) (Or.inl ⟨by rfl, ?_⟩) SW ?_
                        · intro W4 hW4
                          have x0 := hra
                          go_simp <;> first | done | rfl | (rw [IntKind.wrap_i64]; omega) | omega
                        go_simp
                        refine wpAnyH_take (i := 25) (v := .bool false) rfl (by kernel_rfl) (by kernel_rfl) (by kernel_rfl) (fun _ _ _ h => h) (Or.inl ⟨by rfl, ?_⟩) SW ?_
                        · intro W4 hW4
                          go_simp <;> first | done | rfl | (rw [IntKind.wrap_i64]; omega) | omega
                        go_simp
                        refine wpAnyH_take (i := 26) (v := .bool false) rfl (by kernel_rfl) (by kernel_rfl) (by kernel_rfl) (fun _ _ _ h => h) (Or.inl ⟨by rfl, ?_⟩) SW ?_
                        · intro W4 hW4
                          go_simp <;> first | done | rfl | (rw [IntKind.wrap_i64]; omega) | omega
                        go_simp
                        refine wpAnyH_take (i := 27) (v := .pointer (some ⟨w.heap.size, 0, none⟩)) rfl (by kernel_rfl) (by kernel_rfl) (by kernel_rfl) (fun _ _ _ h => h) (Or.inl ⟨by rfl, ?_⟩) SW ?_
                        · intro W4 hW4
                          go_simp <;> first | done | rfl | (rw [IntKind.wrap_i64]; omega) | omega
                        go_simp
                        refine wpAnyH_take (i := 28) (v := .slice (some ⟨bz, oz, none⟩) 33 cz) rfl (by kernel_rfl) (by kernel_rfl) (by kernel_rfl) (fun _ _ _ h => h) (Or.inl ⟨by rfl, ?_⟩) SW ?_
                        · intro W4 hW4
                          have x0 := (HFC.out W4 hW4).1
                          go_simp <;> first | done | rfl | (rw [IntKind.wrap_i64]; omega) | omega
                        go_simp
                        refine wpAnyH_take (i := 29) (v := .int .i64 (q : Nat)) rfl (by kernel_rfl) (by kernel_rfl) (by kernel_rfl) (fun _ _ _ h => h) (Or.inl ⟨by rfl, ?_⟩) SW ?_
                        · intro W4 hW4
                          go_simp <;> first | done | rfl | (rw [IntKind.wrap_i64]; omega) | omega
                        go_simp
                        refine wpAnyH_take (i := 30) (v := .pointer (some ⟨bz, oz + q, none⟩)) rfl (by kernel_rfl) (by kernel_rfl) (by kernel_rfl) (fun _ _ _ h => h) (Or.inl ⟨by rfl, ?_⟩) SW ?_
                        · intro W4 hW4
                          have x0 := hq33
                          go_simp <;> first | done | rfl | (rw [IntKind.wrap_i64]; omega) | omega
                        go_simp
                        refine wpAnyH_take (i := 31) (v := .int .i64 zq) rfl (by kernel_rfl) (by kernel_rfl) (by kernel_rfl) (fun _ _ _ h => h) (Or.inl ⟨by rfl, ?_⟩) SW ?_
                        · intro W4 hW4
                          have x0 := (HFC.out W4 hW4).2.2.2.1
                          go_simp <;> first | done | rfl | (rw [IntKind.wrap_i64]; omega) | omega
                        go_simp
                        refine wpAnyH_take (i := 32) (v := .bool true) rfl (by kernel_rfl) (by kernel_rfl) (by kernel_rfl) (fun _ _ _ h => h) (Or.inl ⟨by rfl, ?_⟩) SW ?_
                        · intro W4 hW4
                          have x0 := hzq
                          go_simp <;> first | done | rfl | (rw [IntKind.wrap_i64]; omega) | omega
                        go_simp
                        refine wpAnyH_take (i := 33) (v := .bool true) rfl (by kernel_rfl) (by kernel_rfl) (by kernel_rfl) (fun _ _ _ h => h) (Or.inl ⟨by rfl, ?_⟩) SW ?_
                        · intro W4 hW4
                          go_simp <;> first | done | rfl | (rw [IntKind.wrap_i64]; omega) | omega
                        go_simp
                        refine wpAnyH_take (i := 34) (v := .int .i64 (q : Nat)) rfl (by kernel_rfl) (by kernel_rfl) (by kernel_rfl) (fun _ _ _ h => h) (Or.inl ⟨by rfl, ?_⟩) SW ?_
                        · intro W4 hW4
                          go_simp <;> first | done | rfl | (rw [IntKind.wrap_i64]; omega) | omega
                        go_simp
                        refine wpAnyH_take (i := 35) (v := .slice (some ⟨bw, ow, none⟩) nW cw) rfl (by kernel_rfl) (by kernel_rfl) (by kernel_rfl) (fun _ _ _ h => h) (Or.inl ⟨by rfl, ?_⟩) SW ?_
                        · intro W4 hW4
                          go_simp <;> first | done | rfl | (rw [IntKind.wrap_i64]; omega) | omega
                        go_simp
                        refine wpAnyH_take (i := 36) (v := .pointer (some ⟨bw, ow, none⟩)) rfl (by kernel_rfl) (by kernel_rfl) (by kernel_rfl) (fun _ _ _ h => h) (Or.inl ⟨by rfl, ?_⟩) SW ?_
                        · intro W4 hW4
                          go_simp <;> first | done | rfl | (rw [IntKind.wrap_i64]; omega) | omega
                        go_simp
                        refine wpAnyH_take (i := 37) (v := .int .i64 (p0 : Nat)) rfl (by kernel_rfl) (by kernel_rfl) (by kernel_rfl) (fun _ _ _ h => h) (Or.inl ⟨by rfl, ?_⟩) SW ?_
                        · intro W4 hW4
                          have x0 := (HFC.out W4 hW4).2.2.2.2
                          go_simp <;> first | done | rfl | (rw [IntKind.wrap_i64]; omega) | omega
                        go_simp
                        refine wpAnyH_take (i := 38) (v := .bool true) rfl (by kernel_rfl) (by kernel_rfl) (by kernel_rfl) (fun _ _ _ h => h) (Or.inl ⟨by rfl, ?_⟩) SW ?_
                        · intro W4 hW4
                          have x0 := hqp
                          go_simp <;> first | done | rfl | (rw [IntKind.wrap_i64]; omega) | omega
                        go_simp
                        refine wpAnyH_take (i := 39) (v := .bool true) rfl (by kernel_rfl) (by kernel_rfl) (by kernel_rfl) (fun _ _ _ h => h) (Or.inl ⟨by rfl, ?_⟩) SW ?_
                        · intro W4 hW4
                          go_simp <;> first | done | rfl | (rw [IntKind.wrap_i64]; omega) | omega
                        go_simp
                        refine wpAnyH_take (i := 40) (v := .bool true) rfl (by kernel_rfl) (by kernel_rfl) (by kernel_rfl) (fun _ _ _ h => h) (Or.inl ⟨by rfl, ?_⟩) SW ?_
                        · intro W4 hW4
                          go_simp <;> first | done | rfl | (rw [IntKind.wrap_i64]; omega) | omega
                        go_simp
                        refine wpAnyH_done (by kernel_rfl) ?_ _
                        go_wp2_with fail
                        go_meet
                        case rel => exact ⟨by rw [HBV.out], rfl⟩
                · have how : (((own3 zm : Nat) : Int) != ((3 - t : Nat) : Int)) = true := by simp; omega
                  have HBV : Hid (bd = true) := hide (by rw [← hbd, decide_eq_true_eq]; exact fun k => c3 k.2.2.1)
                  clear c3 hbd
                  refine wp_region_held (S := fun W4 => Below wr.heap.size wr W4) (by kernel_rfl) ?_
                  change wpAnyH _ _ _ _ _ _ _ _ (World.drew _)
                  have SW : Below wr.heap.size wr wr.drew := (Below.refl _ wr).drew
                  refine wpAnyH_take (i := 0) (v := .int .i64 pc) rfl (by kernel_rfl) (by kernel_rfl) (by kernel_rfl) (fun _ _ _ h => h) (Or.inl ⟨by rfl, ?_⟩) SW ?_
                  · intro W4 hW4
                    go_simp <;> first | done | rfl | (rw [IntKind.wrap_i64]; omega) | omega
                  go_simp
                  refine wpAnyH_take (i := 1) (v := .int .i64 y) rfl (by kernel_rfl) (by kernel_rfl) (by kernel_rfl) (fun _ _ _ h => h) (Or.inl ⟨by rfl, ?_⟩) SW ?_
                  · intro W4 hW4
                    go_simp <;> first | done | rfl | (rw [IntKind.wrap_i64]; omega) | omega
                  go_simp
                  refine wpAnyH_ready (rs := [2]) (by kernel_rfl) (by simp) ?_
                  refine AllReadyH.cons rfl (fun K1 hK1 => ?_) AllReadyH.nil
                  go_simp
                  refine (HFW.out _).mono ?_
                  rintro r w5 ⟨rfl, hw5⟩
                  subst w5
                  rw [hfw]
                  refine hK1.out _ _ SW (fun SW => ?_)
                  clear hK1 K1
                  go_simp
                  refine wpAnyH_take (i := 3) (v := .bool false) rfl (by kernel_rfl) (by kernel_rfl) (by kernel_rfl) (fun _ _ _ h => h) (Or.inl ⟨by rfl, ?_⟩) SW ?_
                  · intro W4 hW4
                    go_simp <;> first | done | rfl | (rw [IntKind.wrap_i64]; omega) | omega
                  go_simp
                  refine wpAnyH_take (i := 4) (v := .bool false) rfl (by kernel_rfl) (by kernel_rfl) (by kernel_rfl) (fun _ _ _ h => h) (Or.inl ⟨by rfl, ?_⟩) SW ?_
                  · intro W4 hW4
                    go_simp <;> first | done | rfl | (rw [IntKind.wrap_i64]; omega) | omega
                  go_simp
                  refine wpAnyH_take (i := 5) (v := .int .i64 (q : Nat)) rfl (by kernel_rfl) (by kernel_rfl) (by kernel_rfl) (fun _ _ _ h => h) (Or.inl ⟨by rfl, ?_⟩) SW ?_
                  · intro W4 hW4
                    go_simp <;> first | done | rfl | (rw [IntKind.wrap_i64]; omega) | omega
                  go_simp
                  refine wpAnyH_take (i := 6) (v := .bool false) rfl (by kernel_rfl) (by kernel_rfl) (by kernel_rfl) (fun _ _ _ h => h) (Or.inl ⟨by rfl, ?_⟩) SW ?_
                  · intro W4 hW4
                    have x0 := hqz
                    go_simp <;> first | done | rfl | (rw [IntKind.wrap_i64]; omega) | omega
                  go_simp
                  refine wpAnyH_take (i := 7) (v := .bool false) rfl (by kernel_rfl) (by kernel_rfl) (by kernel_rfl) (fun _ _ _ h => h) (Or.inl ⟨by rfl, ?_⟩) SW ?_
                  · intro W4 hW4
                    go_simp <;> first | done | rfl | (rw [IntKind.wrap_i64]; omega) | omega
                  go_simp
                  refine wpAnyH_take (i := 8) (v := .bool false) rfl (by kernel_rfl) (by kernel_rfl) (by kernel_rfl) (fun _ _ _ h => h) (Or.inl ⟨by rfl, ?_⟩) SW ?_
                  · intro W4 hW4
                    go_simp <;> first | done | rfl | (rw [IntKind.wrap_i64]; omega) | omega
                  go_simp
                  refine wpAnyH_take (i := 9) (v := .pointer (some ⟨w.heap.size, 0, none⟩)) rfl (by kernel_rfl) (by kernel_rfl) (by kernel_rfl) (fun _ _ _ h => h) (Or.inl ⟨by rfl, ?_⟩) SW ?_
                  · intro W4 hW4
                    go_simp <;> first | done | rfl | (rw [IntKind.wrap_i64]; omega) | omega
                  go_simp
                  refine wpAnyH_take (i := 10) (v := .slice (some ⟨bz, oz, none⟩) 33 cz) rfl (by kernel_rfl) (by kernel_rfl) (by kernel_rfl) (fun _ _ _ h => h) (Or.inl ⟨by rfl, ?_⟩) SW ?_
                  · intro W4 hW4
                    have x0 := (HFC.out W4 hW4).1
                    go_simp <;> first | done | rfl | (rw [IntKind.wrap_i64]; omega) | omega
                  go_simp
                  refine wpAnyH_take (i := 11) (v := .int .i64 (m : Nat)) rfl (by kernel_rfl) (by kernel_rfl) (by kernel_rfl) (fun _ _ _ h => h) (Or.inl ⟨by rfl, ?_⟩) SW ?_
                  · intro W4 hW4
                    go_simp <;> first | done | rfl | (rw [IntKind.wrap_i64]; omega) | omega
                  go_simp
                  refine wpAnyH_take (i := 12) (v := .pointer (some ⟨bz, oz + m, none⟩)) rfl (by kernel_rfl) (by kernel_rfl) (by kernel_rfl) (fun _ _ _ h => h) (Or.inl ⟨by rfl, ?_⟩) SW ?_
                  · intro W4 hW4
                    have x0 := hm33
                    go_simp <;> first | done | rfl | (rw [IntKind.wrap_i64]; omega) | omega
                  go_simp
                  refine wpAnyH_take (i := 13) (v := .int .i64 zm) rfl (by kernel_rfl) (by kernel_rfl) (by kernel_rfl) (fun _ _ _ h => h) (Or.inl ⟨by rfl, ?_⟩) SW ?_
                  · intro W4 hW4
                    have x0 := (HFC.out W4 hW4).2.2.1
                    go_simp <;> first | done | rfl | (rw [IntKind.wrap_i64]; omega) | omega
                  go_simp
                  refine wpAnyH_take (i := 15) (v := .pointer (some ⟨w.heap.size, 1, none⟩)) rfl (by kernel_rfl) (by kernel_rfl) (by kernel_rfl) (fun _ _ _ h => h) (Or.inl ⟨by rfl, ?_⟩) SW ?_
                  · intro W4 hW4
                    go_simp <;> first | done | rfl | (rw [IntKind.wrap_i64]; omega) | omega
                  go_simp
                  refine wpAnyH_take (i := 16) (v := .int .i64 (t : Nat)) rfl (by kernel_rfl) (by kernel_rfl) (by kernel_rfl) (fun _ _ _ h => h) (Or.inl ⟨by rfl, ?_⟩) SW ?_
                  · intro W4 hW4
                    have x0 := (HFC.out W4 hW4).2.1
                    go_simp <;> first | done | rfl | (rw [IntKind.wrap_i64]; omega) | omega
                  go_simp
                  refine wpAnyH_take (i := 17) (v := .int .i64 ((3 - t : Nat) : Int)) rfl (by kernel_rfl) (by kernel_rfl) (by kernel_rfl) (fun _ _ _ h => h) (Or.inl ⟨by rfl, ?_⟩) SW ?_
                  · intro W4 hW4
                    have x0 := ht3
                    go_simp <;> first | done | rfl | (rw [IntKind.wrap_i64]; omega) | omega
                  go_simp
                  refine wpAnyH_ready (rs := [14]) (by kernel_rfl) (by simp) ?_
                  refine AllReadyH.cons rfl (fun K1 hK1 => ?_) AllReadyH.nil
                  go_simp
                  refine (HOW.out _).mono ?_
                  rintro r w5 ⟨rfl, hw5⟩
                  subst w5
                  refine hK1.out _ _ SW (fun SW => ?_)
                  clear hK1 K1
                  go_simp
                  refine wpAnyH_take (i := 18) (v := .bool true) rfl (by kernel_rfl) (by kernel_rfl) (by kernel_rfl) (fun _ _ _ h => h) (Or.inl ⟨by rfl, ?_⟩) SW ?_
                  · intro W4 hW4
                    have x0 := how
                    go_simp <;> first | done | rfl | (rw [IntKind.wrap_i64]; omega) | omega
                  go_simp
                  refine wpAnyH_take (i := 19) (v := .bool true) rfl (by kernel_rfl) (by kernel_rfl) (by kernel_rfl) (fun _ _ _ h => h) (Or.inl ⟨by rfl, ?_⟩) SW ?_
                  · intro W4 hW4
                    go_simp <;> first | done | rfl | (rw [IntKind.wrap_i64]; omega) | omega
                  go_simp
                  refine wpAnyH_take (i := 20) (v := .bool true) rfl (by kernel_rfl) (by kernel_rfl) (by kernel_rfl) (fun _ _ _ h => h) (Or.inl ⟨by rfl, ?_⟩) SW ?_
                  · intro W4 hW4
                    go_simp <;> first | done | rfl | (rw [IntKind.wrap_i64]; omega) | omega
                  go_simp
                  refine wpAnyH_take (i := 21) (v := undef) rfl (by kernel_rfl) (by kernel_rfl) (by kernel_rfl) (fun _ _ _ h => h) (Or.inr ⟨by rfl, rfl⟩) SW ?_
                  go_simp
                  refine wpAnyH_take (i := 22) (v := undef) rfl (by kernel_rfl) (by kernel_rfl) (by kernel_rfl) (fun _ _ _ h => h) (Or.inr ⟨by rfl, rfl⟩) SW ?_
                  go_simp
                  refine wpAnyH_ready (rs := [23]) (by kernel_rfl) (by simp) ?_
                  refine AllReadyH.cons rfl (fun K1 hK1 => ?_) AllReadyH.nil
                  go_simp
                  refine hK1.out _ _ SW (fun SW => ?_)
                  clear hK1 K1
                  go_simp
                  refine wpAnyH_take (i := 24) (v := undef) rfl (by kernel_rfl) (by kernel_rfl) (by kernel_rfl) (fun _ _ _ h => h) (Or.inr ⟨by rfl, rfl⟩) SW ?_
                  go_simp
                  refine wpAnyH_take (i := 25) (v := .bool true) rfl (by kernel_rfl) (by kernel_rfl) (by kernel_rfl) (fun _ _ _ h => h) (Or.inl ⟨by rfl, ?_⟩) SW ?_
                  · intro W4 hW4
                    go_simp <;> first | done | rfl | (rw [IntKind.wrap_i64]; omega) | omega
                  go_simp
                  refine wpAnyH_take (i := 26) (v := .bool true) rfl (by kernel_rfl) (by kernel_rfl) (by kernel_rfl) (fun _ _ _ h => h) (Or.inl ⟨by rfl, ?_⟩) SW ?_
                  · intro W4 hW4
                    go_simp <;> first | done | rfl | (rw [IntKind.wrap_i64]; omega) | omega
                  go_simp
                  refine wpAnyH_take (i := 27) (v := undef) rfl (by kernel_rfl) (by kernel_rfl) (by kernel_rfl) (fun _ _ _ h => h) (Or.inr ⟨by rfl, rfl⟩) SW ?_
                  go_simp
                  refine wpAnyH_take (i := 28) (v := undef) rfl (by kernel_rfl) (by kernel_rfl) (by kernel_rfl) (fun _ _ _ h => h) (Or.inr ⟨by rfl, rfl⟩) SW ?_
                  go_simp
                  refine wpAnyH_take (i := 29) (v := undef) rfl (by kernel_rfl) (by kernel_rfl) (by kernel_rfl) (fun _ _ _ h => h) (Or.inr ⟨by rfl, rfl⟩) SW ?_
                  go_simp
                  refine wpAnyH_take (i := 30) (v := undef) rfl (by kernel_rfl) (by kernel_rfl) (by kernel_rfl) (fun _ _ _ h => h) (Or.inr ⟨by rfl, rfl⟩) SW ?_
                  go_simp
                  refine wpAnyH_take (i := 31) (v := undef) rfl (by kernel_rfl) (by kernel_rfl) (by kernel_rfl) (fun _ _ _ h => h) (Or.inr ⟨by rfl, rfl⟩) SW ?_
                  go_simp
                  refine wpAnyH_take (i := 32) (v := undef) rfl (by kernel_rfl) (by kernel_rfl) (by kernel_rfl) (fun _ _ _ h => h) (Or.inr ⟨by rfl, rfl⟩) SW ?_
                  go_simp
                  refine wpAnyH_take (i := 33) (v := undef) rfl (by kernel_rfl) (by kernel_rfl) (by kernel_rfl) (fun _ _ _ h => h) (Or.inr ⟨by rfl, rfl⟩) SW ?_
                  go_simp
                  refine wpAnyH_take (i := 34) (v := undef) rfl (by kernel_rfl) (by kernel_rfl) (by kernel_rfl) (fun _ _ _ h => h) (Or.inr ⟨by rfl, rfl⟩) SW ?_
                  go_simp
                  refine wpAnyH_take (i := 35) (v := undef) rfl (by kernel_rfl) (by kernel_rfl) (by kernel_rfl) (fun _ _ _ h => h) (Or.inr ⟨by rfl, rfl⟩) SW ?_
                  go_simp
                  refine wpAnyH_take (i := 36) (v := undef) rfl (by kernel_rfl) (by kernel_rfl) (by kernel_rfl) (fun _ _ _ h => h) (Or.inr ⟨by rfl, rfl⟩) SW ?_
                  go_simp
                  refine wpAnyH_take (i := 37) (v := undef) rfl (by kernel_rfl) (by kernel_rfl) (by kernel_rfl) (fun _ _ _ h => h) (Or.inr ⟨by rfl, rfl⟩) SW ?_
                  go_simp
                  refine wpAnyH_take (i := 38) (v := undef) rfl (by kernel_rfl) (by kernel_rfl) (by kernel_rfl) (fun _ _ _ h => h) (Or.inr ⟨by rfl, rfl⟩) SW ?_
                  go_simp
                  refine wpAnyH_take (i := 39) (v := undef) rfl (by kernel_rfl) (by kernel_rfl) (by kernel_rfl) (fun _ _ _ h => h) (Or.inr ⟨by rfl, rfl⟩) SW ?_
                  go_simp
                  refine wpAnyH_take (i := 40) (v := .bool true) rfl (by kernel_rfl) (by kernel_rfl) (by kernel_rfl) (fun _ _ _ h => h) (Or.inl ⟨by rfl, ?_⟩) SW ?_
                  · intro W4 hW4
                    go_simp <;> first | done | rfl | (rw [IntKind.wrap_i64]; omega) | omega
                  go_simp
                  refine wpAnyH_done (by kernel_rfl) ?_ _
                  go_wp2_with fail
                  go_meet
                  case rel => exact ⟨by rw [HBV.out], rfl⟩
            · have hfw : fwd pc d = false := by simpa using c1
              have HBV : Hid (bd = true) := hide (by rw [← hbd, decide_eq_true_eq]; exact fun k => c1 k.1)
              clear c1 hbd
              refine wp_region_held (S := fun W4 => Below wr.heap.size wr W4) (by kernel_rfl) ?_
              change wpAnyH _ _ _ _ _ _ _ _ (World.drew _)
              have SW : Below wr.heap.size wr wr.drew := (Below.refl _ wr).drew
              refine wpAnyH_take (i := 0) (v := .int .i64 pc) rfl (by kernel_rfl) (by kernel_rfl) (by kernel_rfl) (fun _ _ _ h => h) (Or.inl ⟨by rfl, ?_⟩) SW ?_
              · intro W4 hW4
                go_simp <;> first | done | rfl | (rw [IntKind.wrap_i64]; omega) | omega
              go_simp
              refine wpAnyH_take (i := 1) (v := .int .i64 y) rfl (by kernel_rfl) (by kernel_rfl) (by kernel_rfl) (fun _ _ _ h => h) (Or.inl ⟨by rfl, ?_⟩) SW ?_
              · intro W4 hW4
                go_simp <;> first | done | rfl | (rw [IntKind.wrap_i64]; omega) | omega
              go_simp
              refine wpAnyH_ready (rs := [2]) (by kernel_rfl) (by simp) ?_
              refine AllReadyH.cons rfl (fun K1 hK1 => ?_) AllReadyH.nil
              go_simp
              refine (HFW.out _).mono ?_
              rintro r w5 ⟨rfl, hw5⟩
              subst w5
              rw [hfw]
              refine hK1.out _ _ SW (fun SW => ?_)
              clear hK1 K1
              go_simp
              refine wpAnyH_take (i := 3) (v := .bool true) rfl (by kernel_rfl) (by kernel_rfl) (by kernel_rfl) (fun _ _ _ h => h) (Or.inl ⟨by rfl, ?_⟩) SW ?_
              · intro W4 hW4
                go_simp <;> first | done | rfl | (rw [IntKind.wrap_i64]; omega) | omega
              go_simp
              refine wpAnyH_take (i := 4) (v := .bool true) rfl (by kernel_rfl) (by kernel_rfl) (by kernel_rfl) (fun _ _ _ h => h) (Or.inl ⟨by rfl, ?_⟩) SW ?_
              · intro W4 hW4
                go_simp <;> first | done | rfl | (rw [IntKind.wrap_i64]; omega) | omega
              go_simp
              refine wpAnyH_take (i := 5) (v := undef) rfl (by kernel_rfl) (by kernel_rfl) (by kernel_rfl) (fun _ _ _ h => h) (Or.inr ⟨by rfl, rfl⟩) SW ?_
              go_simp
              refine wpAnyH_take (i := 6) (v := undef) rfl (by kernel_rfl) (by kernel_rfl) (by kernel_rfl) (fun _ _ _ h => h) (Or.inr ⟨by rfl, rfl⟩) SW ?_
              go_simp
              refine wpAnyH_take (i := 7) (v := .bool true) rfl (by kernel_rfl) (by kernel_rfl) (by kernel_rfl) (fun _ _ _ h => h) (Or.inl ⟨by rfl, ?_⟩) SW ?_
              · intro W4 hW4
                go_simp <;> first | done | rfl | (rw [IntKind.wrap_i64]; omega) | omega
              go_simp
              refine wpAnyH_take (i := 8) (v := .bool true) rfl (by kernel_rfl) (by kernel_rfl) (by kernel_rfl) (fun _ _ _ h => h) (Or.inl ⟨by rfl, ?_⟩) SW ?_
              · intro W4 hW4
                go_simp <;> first | done | rfl | (rw [IntKind.wrap_i64]; omega) | omega
              go_simp
              refine wpAnyH_take (i := 9) (v := undef) rfl (by kernel_rfl) (by kernel_rfl) (by kernel_rfl) (fun _ _ _ h => h) (Or.inr ⟨by rfl, rfl⟩) SW ?_
              go_simp
              refine wpAnyH_take (i := 10) (v := undef) rfl (by kernel_rfl) (by kernel_rfl) (by kernel_rfl) (fun _ _ _ h => h) (Or.inr ⟨by rfl, rfl⟩) SW ?_
              go_simp
              refine wpAnyH_take (i := 11) (v := undef) rfl (by kernel_rfl) (by kernel_rfl) (by kernel_rfl) (fun _ _ _ h => h) (Or.inr ⟨by rfl, rfl⟩) SW ?_
              go_simp
              refine wpAnyH_take (i := 12) (v := undef) rfl (by kernel_rfl) (by kernel_rfl) (by kernel_rfl) (fun _ _ _ h => h) (Or.inr ⟨by rfl, rfl⟩) SW ?_
              go_simp
              refine wpAnyH_take (i := 13) (v := undef) rfl (by kernel_rfl) (by kernel_rfl) (by kernel_rfl) (fun _ _ _ h => h) (Or.inr ⟨by rfl, rfl⟩) SW ?_
              go_simp
              refine wpAnyH_take (i := 15) (v := undef) rfl (by kernel_rfl) (by kernel_rfl) (by kernel_rfl) (fun _ _ _ h => h) (Or.inr ⟨by rfl, rfl⟩) SW ?_
              go_simp
              refine wpAnyH_take (i := 16) (v := undef) rfl (by kernel_rfl) (by kernel_rfl) (by kernel_rfl) (fun _ _ _ h => h) (Or.inr ⟨by rfl, rfl⟩) SW ?_
              go_simp
              refine wpAnyH_take (i := 17) (v := undef) rfl (by kernel_rfl) (by kernel_rfl) (by kernel_rfl) (fun _ _ _ h => h) (Or.inr ⟨by rfl, rfl⟩) SW ?_
              go_simp
              refine wpAnyH_ready (rs := [14]) (by kernel_rfl) (by simp) ?_
              refine AllReadyH.cons rfl (fun K1 hK1 => ?_) AllReadyH.nil
              go_simp
              refine hK1.out _ _ SW (fun SW => ?_)
              clear hK1 K1
              go_simp
              refine wpAnyH_take (i := 18) (v := undef) rfl (by kernel_rfl) (by kernel_rfl) (by kernel_rfl) (fun _ _ _ h => h) (Or.inr ⟨by rfl, rfl⟩) SW ?_
              go_simp
              refine wpAnyH_take (i := 19) (v := .bool true) rfl (by kernel_rfl) (by kernel_rfl) (by kernel_rfl) (fun _ _ _ h => h) (Or.inl ⟨by rfl, ?_⟩) SW ?_
              · intro W4 hW4
                go_simp <;> first | done | rfl | (rw [IntKind.wrap_i64]; omega) | omega
              go_simp
              refine wpAnyH_take (i := 20) (v := .bool true) rfl (by kernel_rfl) (by kernel_rfl) (by kernel_rfl) (fun _ _ _ h => h) (Or.inl ⟨by rfl, ?_⟩) SW ?_
              · intro W4 hW4
                go_simp <;> first | done | rfl | (rw [IntKind.wrap_i64]; omega) | omega
              go_simp
              refine wpAnyH_take (i := 21) (v := undef) rfl (by kernel_rfl) (by kernel_rfl) (by kernel_rfl) (fun _ _ _ h => h) (Or.inr ⟨by rfl, rfl⟩) SW ?_
              go_simp
              refine wpAnyH_take (i := 22) (v := undef) rfl (by kernel_rfl) (by kernel_rfl) (by kernel_rfl) (fun _ _ _ h => h) (Or.inr ⟨by rfl, rfl⟩) SW ?_
              go_simp
              refine wpAnyH_ready (rs := [23]) (by kernel_rfl) (by simp) ?_
              refine AllReadyH.cons rfl (fun K1 hK1 => ?_) AllReadyH.nil
              go_simp
              refine hK1.out _ _ SW (fun SW => ?_)
              clear hK1 K1
              go_simp
              refine wpAnyH_take (i := 24) (v := undef) rfl (by kernel_rfl) (by kernel_rfl) (by kernel_rfl) (fun _ _ _ h => h) (Or.inr ⟨by rfl, rfl⟩) SW ?_
              go_simp
              refine wpAnyH_take (i := 25) (v := .bool true) rfl (by kernel_rfl) (by kernel_rfl) (by kernel_rfl) (fun _ _ _ h => h) (Or.inl ⟨by rfl, ?_⟩) SW ?_
              · intro W4 hW4
                go_simp <;> first | done | rfl | (rw [IntKind.wrap_i64]; omega) | omega
              go_simp
              refine wpAnyH_take (i := 26) (v := .bool true) rfl (by kernel_rfl) (by kernel_rfl) (by kernel_rfl) (fun _ _ _ h => h) (Or.inl ⟨by rfl, ?_⟩) SW ?_
              · intro W4 hW4
                go_simp <;> first | done | rfl | (rw [IntKind.wrap_i64]; omega) | omega
              go_simp
              refine wpAnyH_take (i := 27) (v := undef) rfl (by kernel_rfl) (by kernel_rfl) (by kernel_rfl) (fun _ _ _ h => h) (Or.inr ⟨by rfl, rfl⟩) SW ?_
              go_simp
              refine wpAnyH_take (i := 28) (v := undef) rfl (by kernel_rfl) (by kernel_rfl) (by kernel_rfl) (fun _ _ _ h => h) (Or.inr ⟨by rfl, rfl⟩) SW ?_
              go_simp
              refine wpAnyH_take (i := 29) (v := undef) rfl (by kernel_rfl) (by kernel_rfl) (by kernel_rfl) (fun _ _ _ h => h) (Or.inr ⟨by rfl, rfl⟩) SW ?_
              go_simp
              refine wpAnyH_take (i := 30) (v := undef) rfl (by kernel_rfl) (by kernel_rfl) (by kernel_rfl) (fun _ _ _ h => h) (Or.inr ⟨by rfl, rfl⟩) SW ?_
              go_simp
              refine wpAnyH_take (i := 31) (v := undef) rfl (by kernel_rfl) (by kernel_rfl) (by kernel_rfl) (fun _ _ _ h => h) (Or.inr ⟨by rfl, rfl⟩) SW ?_
              go_simp
              refine wpAnyH_take (i := 32) (v := undef) rfl (by kernel_rfl) (by kernel_rfl) (by kernel_rfl) (fun _ _ _ h => h) (Or.inr ⟨by rfl, rfl⟩) SW ?_
              go_simp
              refine wpAnyH_take (i := 33) (v := undef) rfl (by kernel_rfl) (by kernel_rfl) (by kernel_rfl) (fun _ _ _ h => h) (Or.inr ⟨by rfl, rfl⟩) SW ?_
              go_simp
              refine wpAnyH_take (i := 34) (v := undef) rfl (by kernel_rfl) (by kernel_rfl) (by kernel_rfl) (fun _ _ _ h => h) (Or.inr ⟨by rfl, rfl⟩) SW ?_
              go_simp
              refine wpAnyH_take (i := 35) (v := undef) rfl (by kernel_rfl) (by kernel_rfl) (by kernel_rfl) (fun _ _ _ h => h) (Or.inr ⟨by rfl, rfl⟩) SW ?_
              go_simp
              refine wpAnyH_take (i := 36) (v := undef) rfl (by kernel_rfl) (by kernel_rfl) (by kernel_rfl) (fun _ _ _ h => h) (Or.inr ⟨by rfl, rfl⟩) SW ?_
              go_simp
              refine wpAnyH_take (i := 37) (v := undef) rfl (by kernel_rfl) (by kernel_rfl) (by kernel_rfl) (fun _ _ _ h => h) (Or.inr ⟨by rfl, rfl⟩) SW ?_
              go_simp
              refine wpAnyH_take (i := 38) (v := undef) rfl (by kernel_rfl) (by kernel_rfl) (by kernel_rfl) (fun _ _ _ h => h) (Or.inr ⟨by rfl, rfl⟩) SW ?_
              go_simp
              refine wpAnyH_take (i := 39) (v := undef) rfl (by kernel_rfl) (by kernel_rfl) (by kernel_rfl) (fun _ _ _ h => h) (Or.inr ⟨by rfl, rfl⟩) SW ?_
              go_simp
              refine wpAnyH_take (i := 40) (v := .bool true) rfl (by kernel_rfl) (by kernel_rfl) (by kernel_rfl) (fun _ _ _ h => h) (Or.inl ⟨by rfl, ?_⟩) SW ?_
              · intro W4 hW4
                go_simp <;> first | done | rfl | (rw [IntKind.wrap_i64]; omega) | omega
              go_simp
              refine wpAnyH_done (by kernel_rfl) ?_ _
              go_wp2_with fail
              go_meet
              case rel => exact ⟨by rw [HBV.out], rfl⟩
          case rest =>
            obtain ⟨rfl, rfl⟩ := hcut
            have HBd : Hid (Below wr.heap.size wr wr.drew) := hide (Below.refl _ wr).drew
            generalize wr.drew = wd at *
            cases bd with
            | true =>
              have HBE : Hid (rjB Z t (rjN Z t p0 f) p0 c W ov d = []) := hide (by
                have hn := HHN1.out (of_decide_eq_true hbd)
                have := HBD1.out
                rw [hn] at this; exact this)
              have HFN : Hid (Fl (fun k => w1.heap.size ≤ k) w1.heap.size wd (.slice a10 n10 c10) ((rjT Z t p0 f c W ov (2 * i + (j + 1))).map toI)) := hide (by
                rw [show 2 * i + (j + 1) = 2 * i + j + 1 by omega, HTS1.out, HBE.out, List.append_nil]
                exact hFl.out.mono HBd.out)
              have HBN : Hid (Below w1.heap.size w1 wd) := hide (hB.out.trans (HBd.out.mono hB.out.size))
              clear hbd
              go_wp2_with fail
              refine ⟨⟨j + 1, y + 2, by go_num, by omega, by omega, by omega, hide (by have := hy.out; omega), ⟨_, _, _, rfl⟩, HFN, HBN⟩, by simp [intOf]; omega⟩
            | false =>
              have hcd : fwd pc d = true ∧ q ≠ 0 ∧ own3 zm = 3 - t ∧ ov.contains m = false ∧ (zq = 0 ∨ q = p0) := Decidable.not_not.1 (of_decide_eq_false hbd)
              have hhy := HHY1.out hcd
              have hbd1 := HBD1.out
              rw [hhy] at hbd1
              dsimp only at hbd1
              rw [HPC.out] at hbd1
              have HFU2 := hide (HFU1.out q m hhy)
              have hq1 : 1 ≤ q := by omega
              clear hbd hcd hhy
              obtain ⟨CR, hCR⟩ : ∃ CR, crw pc q = CR := ⟨_, rfl⟩
              rw [hCR] at hbd1
              have HWS : Hid (toI W ++ [(q : Int)] = toI (W ++ [q])) := hide (toI_snoc W q).symm
              have HOS : Hid (toI ov ++ [(m : Int)] = toI (ov ++ [m])) := hide (toI_snoc ov m).symm
              have HLW : Hid ((W ++ [q]).length = nW + 1) := hide (by have := HW1.out.len; rw [toI_len] at this; simp [this])
              have HLO : Hid ((ov ++ [m]).length = nO + 1) := hide (by have := HO1.out.len; rw [toI_len] at this; simp [this])
              have HRC : Hid (∀ (la oa : Option Addr) (lc oc : Nat) (W' : World), Rd W' (some ⟨bz, oz, none⟩) 33 cz Z → Rd W' la (nW + 1) lc (toI (W ++ [q])) → Rd W' oa (nO + 1) oc (toI (ov ++ [m])) → Calls Tryd.prog 40 #[.agg (dgA (some ⟨bz, oz, none⟩) 33 cz (t : Nat)), .int .i64 pc, .slice la (nW + 1) lc, .slice oa (nO + 1) oc] W' fun e w' => ∃ v, e = .returned v ∧ Fl (fun k => W'.heap.size ≤ k) W'.heap.size w' v ((rjN Z t p0 f q (W ++ [q]) (ov ++ [m])).map toI) ∧ Below W'.heap.size W' w') := hide (fun la oa lc oc W' k1 k2 k3 => by
                have := HIH.out q (W ++ [q]) (ov ++ [m]) (some ⟨bz, oz, none⟩) la oa cz lc oc W' hq1 hq32 HFU2.out (by have h := HWH.out; have hp := HW1.out.len; rw [toI_len] at hp; cases W with | nil => simp at hp; omega | cons z W => exact h) (by rw [List.getLastD_concat]) (by rw [HLW.out, HLO.out]; have := HWN.out; omega) k1 (by rw [HLW.out]; exact k2) (by rw [HLO.out]; exact k3)
                rw [HLW.out, HLO.out, HPC.out] at this
                exact this)
              have HRL : Hid ((rjN Z t p0 f q (W ++ [q]) (ov ++ [m])).length ≤ 67108864) := hide (Nat.le_trans (rjN_len f q (W ++ [q]) (ov ++ [m])) (by have := HPW.out; omega))
              have HTL1 : Hid (((rjT Z t p0 f c W ov (2 * i + j)).map toI).length ≤ 67108864) := hide (by rw [List.length_map]; exact Nat.le_trans (HTL.out _ (by omega)) HPW.out)
              obtain ⟨ML, hML⟩ : ∃ ML, rjN Z t p0 f q (W ++ [q]) (ov ++ [m]) = ML := ⟨_, rfl⟩
              rw [hML] at hbd1 HRC HRL
              obtain ⟨WQ, hWQ⟩ : ∃ WQ, W ++ [q] = WQ := ⟨_, rfl⟩
              rw [hWQ] at hbd1 HRC HWS HLW
              have HBE0 := hide hbd1
              clear hML hWQ hbd1
              have hBD := hB.out.trans (HBd.out.mono hB.out.size)
              have HINT := hide (ints_own (some ⟨bw, ow, none⟩) nW cw (toI W) wd (HW1.out.mono hBD) (by omega))
              go_wp2_with fail
              refine HINT.out.mono ?_
              rintro e w5 ⟨a5, c5, rfl, hO5, hb5⟩
              have hO5' := hO5
              have B5 : Below wr.heap.size wr w5 := HBd.out.trans (hb5.mono HBd.out.size)
              have hs5 := B5.size
              have hO6 : (w5.alloc (.cells #[.int .i64 (q : Nat)] 3)).ownsRow wd.heap.size 3 1 (.slice a5 nW c5) nW ((toI W).map (Value.int .i64)) := hO5.alloc _
              have hR6 := Rd.one w5 (q : Nat)
              have B6 : Below wr.heap.size wr (w5.alloc (.cells #[.int .i64 (q : Nat)] 3)) := B5.alloc hs5 _
              have hds := HBd.out.size
              have hsz5 := hb5.size
              have hwd6 : wd.heap.size ≤ (w5.alloc (.cells #[.int .i64 (q : Nat)] 3)).heap.size := by simp; omega
              have HB6 := hide B6
              clear hO5 hO5' hb5 B5 B6
              go_wp2_with (at_builtin; refine wpList_append_rd (w5.alloc (.cells #[.int .i64 (q : Nat)] 3)) rfl _ _ rfl wd.heap.size (.slice a5 nW c5) nW (toI W) rfl hO6 (some ⟨w5.heap.size, 0, none⟩) 1 1 [(q : Int)] rfl hR6 (by omega) hwd6 ?_)
              intro v7 w7 hO7 hg7
              have hO7 : w7.ownsRow wd.heap.size 3 1 v7 (nW + 1) ((toI WQ).map (Value.int .i64)) := by rw [← HWS.out, List.map_append]; exact hO7
              obtain ⟨la, lc, rfl⟩ := slice_form hO7
              have HO7 := hide hO7
              have HB7 : Hid (Below wr.heap.size wr w7) := hide (HB6.out.grown hg7 HB6.out.size (fun k hk => by have := (hO6.lt k hk).1; omega))
              clear hO6 hR6 hg7 hO7 HB6 hwd6 hds hsz5 hs5
              go_upto_region 12 with fail
              go_cut [16] from 98 to 111 (fun s wc => s = .bool CR ∧ w7 = wc)
              case first =>
                by_cases g1 : pc = 1
                · have e1 : (pc == 1) = true := by simpa using g1
                  have e2 : (pc == -1) = false := by rw [g1]; rfl
                  by_cases g2 : q ≤ 4
                  · have g2' : (q : Int) ≤ 4 := by omega
                    have HC : Hid (CR = true) := hide (by rw [← hCR]; unfold crw; simp [g1, g2])
                    clear g1 hCR
                    go_wp2_with fail
                    go_meet
                    case rel => exact ⟨by rw [HC.out], rfl⟩
                  · have g2' : ¬ (q : Int) ≤ 4 := by omega
                    have HC : Hid (CR = false) := hide (by rw [← hCR]; unfold crw; simp [g1, g2])
                    clear g1 hCR
                    go_wp2_with fail
                    go_meet
                    case rel => exact ⟨by rw [HC.out], rfl⟩
                · have e1 : (pc == 1) = false := by simpa using g1
                  by_cases g3 : pc = -1
                  · have e2 : (pc == -1) = true := by simpa using g3
                    by_cases g2 : 29 ≤ q
                    · have g2' : (q : Int) ≥ 29 := by omega
                      have HC : Hid (CR = true) := hide (by rw [← hCR]; unfold crw; simp [g3, g2])
                      clear g1 g3 hCR
                      go_wp2_with fail
                      go_meet
                      case rel => exact ⟨by rw [HC.out], rfl⟩
                    · have g2' : ¬ (q : Int) ≥ 29 := by omega
                      have HC : Hid (CR = false) := hide (by rw [← hCR]; unfold crw; simp [g3, g2])
                      clear g1 g3 hCR
                      go_wp2_with fail
                      go_meet
                      case rel => exact ⟨by rw [HC.out], rfl⟩
                  · have e2 : (pc == -1) = false := by simpa using g3
                    have HC : Hid (CR = false) := hide (by rw [← hCR]; unfold crw; simp [g1, g3])
                    clear g1 g3 hCR
                    go_wp2_with fail
                    go_meet
                    case rel => exact ⟨by rw [HC.out], rfl⟩
              case rest =>
                obtain ⟨rfl, rfl⟩ := hcut
                clear hCR
                have hBW : w1.heap.size ≤ wr.heap.size := hB.out.size
                cases CR with
                | true =>
                  have HBE : Hid ((rjB Z t (rjN Z t p0 f) p0 c W ov d).map toI = [toI WQ]) := hide (by rw [HBE0.out]; simp)
                  have hI : Ir (fun k => w1.heap.size ≤ k) (w7.alloc (.cells #[.slice la (nW + 1) lc] 22)) la (toI WQ).length lc (toI WQ) := by
                    have h0 := (Ir.of_own (O := fun k => w1.heap.size ≤ k) HO7.out (fun k hk _ => by have := HBd.out.size; omega)).keeps (X := fun _ => False) (Keeps.of_all ((Below.refl _ w7).alloc (Nat.le_refl _) (.cells #[.slice la (nW + 1) lc] 22))) (fun _ _ e => e)
                    rw [toI_len, HLW.out]; exact h0
                  have hR : Fr (fun k => w1.heap.size ≤ k) (w7.alloc (.cells #[.slice la (nW + 1) lc] 22)) (some ⟨w7.heap.size, 0, none⟩) 1 1 [toI WQ] := Fr.one (a := la) (c := lc) (by rw [toI_len, HLW.out]; exact new_cell w7 _ 22) hI
                  have HB8 : Hid (Below wr.heap.size wr (w7.alloc (.cells #[.slice la (nW + 1) lc] 22))) := hide (HB7.out.alloc HB7.out.size _)
                  have hFE := hFl.out.mono HB8.out
                  have hEs := HB8.out.size
                  have hBs := hB.out.size
                  go_wp2_with (at_builtin; refine wpList_append_fr (w7.alloc (.cells #[.slice la (nW + 1) lc] 22)) rfl _ _ rfl w1.heap.size _ _ rfl hFE _ _ _ [toI WQ] rfl hR (by have := HTL1.out; omega) (by omega) ?_)
                  intro v' wF hFF a' c' hvF hgF
                  have hFN := hFF (fun k => w1.heap.size ≤ k) (fun k _ h => h) (fun k hk _ => by first | omega | (have h2 := hEs; simp only [World.size_alloc] at h2; omega))
                  have HFN : Hid (Fl (fun k => w1.heap.size ≤ k) w1.heap.size wF v' ((rjT Z t p0 f c W ov (2 * i + (j + 1))).map toI)) := hide (by rw [show 2 * i + (j + 1) = 2 * i + j + 1 by omega, HTS1.out, List.map_append, HBE.out]; exact hFN)
                  have HBN : Hid (Below w1.heap.size w1 wF) := hide (hB.out.trans ((HB8.out.mono hBs).trans ((Below.refl _ (w7.alloc (.cells #[.slice la (nW + 1) lc] 22))).grown hgF (Nat.le_trans hBs hEs) (fun k hk => by
                    obtain ⟨vs, ho, _⟩ := hFE
                    exact (ho.lt k hk).1))))
                  subst hvF
                  clear hFF hgF hFN hFE hEs hBs
                  go_wp2_with fail
                  refine ⟨⟨j + 1, y + 2, by go_num, by omega, by omega, by omega, hide (by have := hy.out; omega), ⟨_, _, _, rfl⟩, HFN, HBN⟩, by simp [intOf]; omega⟩
                | false =>
                  go_upto_region 15 with fail
                  have HZ7 : Hid (∀ W4, Below w7.heap.size w7 W4 → Rd W4 (some ⟨bz, oz, none⟩) 33 cz Z ∧ Rd W4 la (nW + 1) lc (toI WQ) ∧ Rd W4 ao nO co (toI ov)) := hide (fun W4 hb => ⟨((HZ1.out.mono hB.out).mono HB7.out).mono hb, (Rd.of_own HO7.out).mono hb, (HO2.out.mono HB7.out).mono hb⟩)
                  have HD7 : Hid (∀ W4, Below w7.heap.size w7 W4 → W4.rangeAt w.heap.size 0 [.slice (some ⟨bz, oz, none⟩) 33 cz, .int .i64 (t : Nat)]) := hide (fun W4 hb => by
                    obtain ⟨g1, g2⟩ := ((HG2.out.below HB7.out HG2.out.lt).below hb (by have := HB7.out.size; have := HG2.out.lt; omega)).cells
                    intro jj v hv
                    rw [Nat.zero_add]
                    match jj, hv with
                    | 0, hv => rw [g1]; exact hv
                    | 1, hv => rw [g2]; exact hv
                    | jj + 2, hv => simp at hv)
                  refine wp_region_held (S := fun W4 => Below w7.heap.size w7 W4) (by kernel_rfl) ?_
                  change wpAnyH _ _ _ _ _ _ _ _ (World.drew _)
                  have SW : Below w7.heap.size w7 w7.drew := (Below.refl _ w7).drew
                  refine wpAnyH_take (i := 0) (v := .agg (dgA (some ⟨bz, oz, none⟩) 33 cz (t : Nat))) rfl (by kernel_rfl) (by kernel_rfl) (by kernel_rfl) (fun _ _ _ h => h) (yieldsIf_load_mid (by rfl) 24 _ rfl w.heap.size 0 (by rfl) [.slice (some ⟨bz, oz, none⟩) 33 cz, .int .i64 (t : Nat)] _ (fun W hW => HD7.out W hW) Tryd.underlying24 rfl size24) SW ?_
                  go_simp
                  refine wpAnyH_take (i := 1) (v := .int .i64 pc) rfl (by kernel_rfl) (by kernel_rfl) (by kernel_rfl) (fun _ _ _ h => h) (Or.inl ⟨by rfl, ?_⟩) SW ?_
                  · intro W4 hW4
                    go_simp <;> first | done | rfl | (rw [IntKind.wrap_i64]; omega) | omega
                  go_simp
                  refine wpAnyH_take (i := 2) (v := .slice la (nW + 1) lc) rfl (by kernel_rfl) (by kernel_rfl) (by kernel_rfl) (fun _ _ _ h => h) (Or.inl ⟨by rfl, ?_⟩) SW ?_
                  · intro W4 hW4
                    go_simp <;> first | done | rfl | (rw [IntKind.wrap_i64]; omega) | omega
                  go_simp
                  refine wpAnyH_take (i := 3) (v := .slice ao nO co) rfl (by kernel_rfl) (by kernel_rfl) (by kernel_rfl) (fun _ _ _ h => h) (Or.inl ⟨by rfl, ?_⟩) SW ?_
                  · intro W4 hW4
                    go_simp <;> first | done | rfl | (rw [IntKind.wrap_i64]; omega) | omega
                  go_simp
                  refine wpAnyH_take (i := 5) (v := .int .i64 (m : Nat)) rfl (by kernel_rfl) (by kernel_rfl) (by kernel_rfl) (fun _ _ _ h => h) (Or.inl ⟨by rfl, ?_⟩) SW ?_
                  · intro W4 hW4
                    go_simp <;> first | done | rfl | (rw [IntKind.wrap_i64]; omega) | omega
                  go_simp
                  refine wpAnyH_ready (rs := [4, 6]) (by kernel_rfl) (by simp) ?_
                  refine AllReadyH.cons rfl (fun K1 hK1 => ?_) (AllReadyH.cons rfl (fun K1 hK1 => ?_) AllReadyH.nil)
                  · go_simp
                    refine (ints_own ao nO co (toI ov) _ (HZ7.out _ SW).2.2 (by omega)).mono ?_
                    rintro r W5 ⟨a5, c5, rfl, hO5, hb5⟩
                    have B5 := SW.trans (hb5.mono SW.size)
                    refine hK1.out _ _ B5 (fun SW => ?_)
                    clear hK1 K1
                    go_simp
                    refine wpAnyH_ready (rs := [6]) (by kernel_rfl) (by simp) ?_
                    refine AllReadyH.cons rfl (fun K1 hK1 => ?_) AllReadyH.nil
                    go_simp
                    have hO6 : (W5.alloc (.cells #[.int .i64 (m : Nat)] 3)).ownsRow w7.heap.size 3 1 (.slice a5 nO c5) nO ((toI ov).map (Value.int .i64)) := (own_base hO5 (show w7.heap.size ≤ w7.drew.heap.size from Nat.le_refl _)).alloc _
                    have hR6 := Rd.one W5 (m : Nat)
                    have B6 : Below w7.heap.size w7 (W5.alloc (.cells #[.int .i64 (m : Nat)] 3)) := B5.alloc B5.size _
                    refine hK1.out _ _ B6 (fun SW => ?_)
                    clear hK1 K1 hb5 hO5
                    generalize hG6 : W5.alloc (.cells #[.int .i64 (m : Nat)] 3) = W6 at *
                    generalize W5.heap.size = ab at *
                    go_simp
                    refine wpAnyH_ready (rs := [7]) (by kernel_rfl) (by simp) ?_
                    refine AllReadyH.cons rfl (fun K1 hK1 => ?_) AllReadyH.nil
                    rw [if_pos (by rfl)]
                    refine wp_append_rd W6 _ _ rfl w7.heap.size (.slice a5 nO c5) nO (toI ov) rfl hO6 (some ⟨ab, 0, none⟩) 1 1 [(m : Int)] rfl hR6 (by omega) B6.size ?_
                    intro v8 W8 hO8 hg8
                    rw [HOS.out] at hO8
                    obtain ⟨oa, oc, rfl⟩ := slice_form hO8
                    have B8 : Below w7.heap.size w7 W8 := B6.grown hg8 B6.size (fun k hk => (hO6.lt k hk).1)
                    refine hK1.out _ _ B8 (fun SW => ?_)
                    clear hK1 K1 hg8
                    go_simp
                    refine wpAnyH_ready (rs := [8]) (by kernel_rfl) (by simp) ?_
                    refine AllReadyH.cons rfl (fun K1 hK1 => ?_) AllReadyH.nil
                    go_simp
                    have hz8 := HZ7.out W8 B8
                    refine (HRC.out la oa lc oc W8 hz8.1 hz8.2.1 (Rd.of_own hO8)).mono ?_
                    rintro r W9 ⟨v9, rfl, hF9, hb9⟩
                    have B9 : Below w7.heap.size w7 W9 := B8.trans (hb9.mono B8.size)
                    refine hK1.out _ _ B9 (fun SW => ?_)
                    have HF9 : Hid (Fl (fun k => w1.heap.size ≤ k) W8.heap.size W9 v9 (ML.map toI)) := hide (hF9.wide (fun k _ h => by have := B8.size; have := HB7.out.size; omega))
                    have HB9 : Hid (Below wr.heap.size wr W9) := hide (HB7.out.trans (B9.mono HB7.out.size))
                    obtain ⟨ma, mc, rfl⟩ := hF9.form
                    rw [show (ML.map toI).length = ML.length by simp] at HF9 ⊢
                    clear hK1 K1 hF9 hb9 B9 hz8 B8 hO8 hO6 hR6 B6
                    go_simp
                    refine wpAnyH_ready (rs := [9]) (by kernel_rfl) (by simp) ?_
                    refine AllReadyH.cons rfl (fun K1 hK1 => ?_) AllReadyH.nil
                    go_simp
                    refine hK1.out _ _ SW (fun SW => ?_)
                    clear hK1 K1
                    go_simp
                    refine wpAnyH_done (by kernel_rfl) ?_ _
                    have HO9 : Hid (Ir (fun k => w1.heap.size ≤ k) W9 la (nW + 1) lc (toI WQ)) := hide ((Ir.of_own (O := fun k => w1.heap.size ≤ k) HO7.out (fun k hk _ => by have := HBd.out.size; omega)).keeps (X := fun _ => False) (Keeps.of_all SW) (fun _ _ e => e))
                    clear SW
                    by_cases hm0 : ML = []
                    · have HBE : Hid ((rjB Z t (rjN Z t p0 f) p0 c W ov d).map toI = [toI WQ]) := hide (by rw [HBE0.out]; simp [hm0])
                      have hI : Ir (fun k => w1.heap.size ≤ k) (W9.alloc (.cells #[.slice la (nW + 1) lc] 22)) la (toI WQ).length lc (toI WQ) := by
                        have h0 := HO9.out.keeps (X := fun _ => False) (Keeps.of_all ((Below.refl _ W9).alloc (Nat.le_refl _) (.cells #[.slice la (nW + 1) lc] 22))) (fun _ _ e => e)
                        rw [toI_len, HLW.out]; exact h0
                      have hR : Fr (fun k => w1.heap.size ≤ k) (W9.alloc (.cells #[.slice la (nW + 1) lc] 22)) (some ⟨W9.heap.size, 0, none⟩) 1 1 [toI WQ] := Fr.one (a := la) (c := lc) (by rw [toI_len, HLW.out]; exact new_cell W9 _ 22) hI
                      have HB10 : Hid (Below wr.heap.size wr (W9.alloc (.cells #[.slice la (nW + 1) lc] 22))) := hide (HB9.out.alloc HB9.out.size _)
                      have hl0 : ((ML.length : Int) == 0) = true := by rw [hm0]; rfl
                      generalize ML.length = nM at *
                      clear hm0
                      have hFE := hFl.out.mono HB10.out
                      have hEs := HB10.out.size
                      have hBs := hB.out.size
                      go_wp2_with (at_builtin; refine wpList_append_fr (W9.alloc (.cells #[.slice la (nW + 1) lc] 22)) rfl _ _ rfl w1.heap.size _ _ rfl hFE _ _ _ [toI WQ] rfl hR (by have := HTL1.out; omega) (by omega) ?_)
                      intro v' wF hFF a' c' hvF hgF
                      have hFN := hFF (fun k => w1.heap.size ≤ k) (fun k _ h => h) (fun k hk _ => by first | omega | (have h2 := hEs; simp only [World.size_alloc] at h2; omega))
                      have HFN : Hid (Fl (fun k => w1.heap.size ≤ k) w1.heap.size wF v' ((rjT Z t p0 f c W ov (2 * i + (j + 1))).map toI)) := hide (by rw [show 2 * i + (j + 1) = 2 * i + j + 1 by omega, HTS1.out, List.map_append, HBE.out]; exact hFN)
                      have HBN : Hid (Below w1.heap.size w1 wF) := hide (hB.out.trans ((HB10.out.mono hBs).trans ((Below.refl _ (W9.alloc (.cells #[.slice la (nW + 1) lc] 22))).grown hgF (Nat.le_trans hBs hEs) (fun k hk => by
                        obtain ⟨vs, ho, _⟩ := hFE
                        exact (ho.lt k hk).1))))
                      subst hvF
                      clear hFF hgF hFN hFE hEs hBs
                      go_wp2_with fail
                      refine ⟨⟨j + 1, y + 2, by go_num, by omega, by omega, by omega, hide (by have := hy.out; omega), ⟨_, _, _, rfl⟩, HFN, HBN⟩, by simp [intOf]; omega⟩
                    · have HBE : Hid ((rjB Z t (rjN Z t p0 f) p0 c W ov d).map toI = ML.map toI) := hide (by rw [HBE0.out]; simp [hm0])
                      have hl0 : ((ML.length : Int) == 0) = false := by have := List.length_pos_iff.2 hm0; simp; omega
                      have hR := HF9.out.fr
                      have hrl := HRL.out
                      generalize hnM : ML.length = nM at *
                      clear hm0
                      have hFE := hFl.out.mono HB9.out
                      have hEs := HB9.out.size
                      have hBs := hB.out.size
                      go_wp2_with (at_builtin; refine wpList_append_fr W9 rfl _ _ rfl w1.heap.size _ _ rfl hFE _ _ _ (ML.map toI) rfl hR (by have := HTL1.out; omega) (by omega) ?_)
                      intro v' wF hFF a' c' hvF hgF
                      have hFN := hFF (fun k => w1.heap.size ≤ k) (fun k _ h => h) (fun k hk _ => by first | omega | (have h2 := hEs; simp only [World.size_alloc] at h2; omega))
                      have HFN : Hid (Fl (fun k => w1.heap.size ≤ k) w1.heap.size wF v' ((rjT Z t p0 f c W ov (2 * i + (j + 1))).map toI)) := hide (by rw [show 2 * i + (j + 1) = 2 * i + j + 1 by omega, HTS1.out, List.map_append, HBE.out]; exact hFN)
                      have HBN : Hid (Below w1.heap.size w1 wF) := hide (hB.out.trans ((HB9.out.mono hBs).trans ((Below.refl _ W9).grown hgF (Nat.le_trans hBs hEs) (fun k hk => by
                        obtain ⟨vs, ho, _⟩ := hFE
                        exact (ho.lt k hk).1))))
                      subst hvF
                      clear hFF hgF hFN hFE hEs hBs
                      go_wp2_with fail
                      refine ⟨⟨j + 1, y + 2, by go_num, by omega, by omega, by omega, hide (by have := hy.out; omega), ⟨_, _, _, rfl⟩, HFN, HBN⟩, by simp [intOf]; omega⟩
                  · go_simp
                    have hR5 := Rd.one w7.drew (m : Nat)
                    have B5' : Below w7.heap.size w7 (w7.drew.alloc (.cells #[.int .i64 (m : Nat)] 3)) := SW.alloc SW.size _
                    refine hK1.out _ _ B5' (fun SW => ?_)
                    clear hK1 K1
                    have hab : w7.drew.heap.size = w7.heap.size := rfl
                    have hdr : w7.drew.alloc (.cells #[.int .i64 (m : Nat)] 3) = (w7.alloc (.cells #[.int .i64 (m : Nat)] 3)).drew := rfl
                    rw [hab, hdr] at hR5
                    rw [hdr] at B5'
                    clear hab hdr
                    go_simp
                    generalize (w7.alloc (.cells #[.int .i64 (m : Nat)] 3)).drew = W4' at *
                    refine wpAnyH_ready (rs := [4]) (by kernel_rfl) (by simp) ?_
                    refine AllReadyH.cons rfl (fun K1 hK1 => ?_) AllReadyH.nil
                    go_simp
                    refine (ints_own ao nO co (toI ov) _ (HZ7.out _ B5').2.2 (by omega)).mono ?_
                    rintro r W5 ⟨a5, c5, rfl, hO5, hb5⟩
                    have B5 := B5'.trans (hb5.mono B5'.size)
                    refine hK1.out _ _ B5 (fun SW => ?_)
                    clear hK1 K1
                    go_simp
                    have hR6 := hR5.mono hb5
                    have B6 := B5
                    have hO6 : W5.ownsRow w7.heap.size 3 1 (.slice a5 nO c5) nO ((toI ov).map (Value.int .i64)) := own_base hO5 B5'.size
                    generalize hG6 : W5 = W6 at *
                    refine wpAnyH_ready (rs := [7]) (by kernel_rfl) (by simp) ?_
                    refine AllReadyH.cons rfl (fun K1 hK1 => ?_) AllReadyH.nil
                    rw [if_pos (by rfl)]
                    refine wp_append_rd W6 _ _ rfl w7.heap.size (.slice a5 nO c5) nO (toI ov) rfl hO6 (some ⟨w7.heap.size, 0, none⟩) 1 1 [(m : Int)] rfl hR6 (by omega) B6.size ?_
                    intro v8 W8 hO8 hg8
                    rw [HOS.out] at hO8
                    obtain ⟨oa, oc, rfl⟩ := slice_form hO8
                    have B8 : Below w7.heap.size w7 W8 := B6.grown hg8 B6.size (fun k hk => (hO6.lt k hk).1)
                    refine hK1.out _ _ B8 (fun SW => ?_)
                    clear hK1 K1 hg8
                    go_simp
                    refine wpAnyH_ready (rs := [8]) (by kernel_rfl) (by simp) ?_
                    refine AllReadyH.cons rfl (fun K1 hK1 => ?_) AllReadyH.nil
                    go_simp
                    have hz8 := HZ7.out W8 B8
                    refine (HRC.out la oa lc oc W8 hz8.1 hz8.2.1 (Rd.of_own hO8)).mono ?_
                    rintro r W9 ⟨v9, rfl, hF9, hb9⟩
                    have B9 : Below w7.heap.size w7 W9 := B8.trans (hb9.mono B8.size)
                    refine hK1.out _ _ B9 (fun SW => ?_)
                    have HF9 : Hid (Fl (fun k => w1.heap.size ≤ k) W8.heap.size W9 v9 (ML.map toI)) := hide (hF9.wide (fun k _ h => by have := B8.size; have := HB7.out.size; omega))
                    have HB9 : Hid (Below wr.heap.size wr W9) := hide (HB7.out.trans (B9.mono HB7.out.size))
                    obtain ⟨ma, mc, rfl⟩ := hF9.form
                    rw [show (ML.map toI).length = ML.length by simp] at HF9 ⊢
                    clear hK1 K1 hF9 hb9 B9 hz8 B8 hO8 hO6 hR6 B6
                    go_simp
                    refine wpAnyH_ready (rs := [9]) (by kernel_rfl) (by simp) ?_
                    refine AllReadyH.cons rfl (fun K1 hK1 => ?_) AllReadyH.nil
                    go_simp
                    refine hK1.out _ _ SW (fun SW => ?_)
                    clear hK1 K1
                    go_simp
                    refine wpAnyH_done (by kernel_rfl) ?_ _
                    have HO9 : Hid (Ir (fun k => w1.heap.size ≤ k) W9 la (nW + 1) lc (toI WQ)) := hide ((Ir.of_own (O := fun k => w1.heap.size ≤ k) HO7.out (fun k hk _ => by have := HBd.out.size; omega)).keeps (X := fun _ => False) (Keeps.of_all SW) (fun _ _ e => e))
                    clear SW
                    by_cases hm0 : ML = []
                    · have HBE : Hid ((rjB Z t (rjN Z t p0 f) p0 c W ov d).map toI = [toI WQ]) := hide (by rw [HBE0.out]; simp [hm0])
                      have hI : Ir (fun k => w1.heap.size ≤ k) (W9.alloc (.cells #[.slice la (nW + 1) lc] 22)) la (toI WQ).length lc (toI WQ) := by
                        have h0 := HO9.out.keeps (X := fun _ => False) (Keeps.of_all ((Below.refl _ W9).alloc (Nat.le_refl _) (.cells #[.slice la (nW + 1) lc] 22))) (fun _ _ e => e)
                        rw [toI_len, HLW.out]; exact h0
                      have hR : Fr (fun k => w1.heap.size ≤ k) (W9.alloc (.cells #[.slice la (nW + 1) lc] 22)) (some ⟨W9.heap.size, 0, none⟩) 1 1 [toI WQ] := Fr.one (a := la) (c := lc) (by rw [toI_len, HLW.out]; exact new_cell W9 _ 22) hI
                      have HB10 : Hid (Below wr.heap.size wr (W9.alloc (.cells #[.slice la (nW + 1) lc] 22))) := hide (HB9.out.alloc HB9.out.size _)
                      have hl0 : ((ML.length : Int) == 0) = true := by rw [hm0]; rfl
                      generalize ML.length = nM at *
                      clear hm0
                      have hFE := hFl.out.mono HB10.out
                      have hEs := HB10.out.size
                      have hBs := hB.out.size
                      go_wp2_with (at_builtin; refine wpList_append_fr (W9.alloc (.cells #[.slice la (nW + 1) lc] 22)) rfl _ _ rfl w1.heap.size _ _ rfl hFE _ _ _ [toI WQ] rfl hR (by have := HTL1.out; omega) (by omega) ?_)
                      intro v' wF hFF a' c' hvF hgF
                      have hFN := hFF (fun k => w1.heap.size ≤ k) (fun k _ h => h) (fun k hk _ => by first | omega | (have h2 := hEs; simp only [World.size_alloc] at h2; omega))
                      have HFN : Hid (Fl (fun k => w1.heap.size ≤ k) w1.heap.size wF v' ((rjT Z t p0 f c W ov (2 * i + (j + 1))).map toI)) := hide (by rw [show 2 * i + (j + 1) = 2 * i + j + 1 by omega, HTS1.out, List.map_append, HBE.out]; exact hFN)
                      have HBN : Hid (Below w1.heap.size w1 wF) := hide (hB.out.trans ((HB10.out.mono hBs).trans ((Below.refl _ (W9.alloc (.cells #[.slice la (nW + 1) lc] 22))).grown hgF (Nat.le_trans hBs hEs) (fun k hk => by
                        obtain ⟨vs, ho, _⟩ := hFE
                        exact (ho.lt k hk).1))))
                      subst hvF
                      clear hFF hgF hFN hFE hEs hBs
                      go_wp2_with fail
                      refine ⟨⟨j + 1, y + 2, by go_num, by omega, by omega, by omega, hide (by have := hy.out; omega), ⟨_, _, _, rfl⟩, HFN, HBN⟩, by simp [intOf]; omega⟩
                    · have HBE : Hid ((rjB Z t (rjN Z t p0 f) p0 c W ov d).map toI = ML.map toI) := hide (by rw [HBE0.out]; simp [hm0])
                      have hl0 : ((ML.length : Int) == 0) = false := by have := List.length_pos_iff.2 hm0; simp; omega
                      have hR := HF9.out.fr
                      have hrl := HRL.out
                      generalize hnM : ML.length = nM at *
                      clear hm0
                      have hFE := hFl.out.mono HB9.out
                      have hEs := HB9.out.size
                      have hBs := hB.out.size
                      go_wp2_with (at_builtin; refine wpList_append_fr W9 rfl _ _ rfl w1.heap.size _ _ rfl hFE _ _ _ (ML.map toI) rfl hR (by have := HTL1.out; omega) (by omega) ?_)
                      intro v' wF hFF a' c' hvF hgF
                      have hFN := hFF (fun k => w1.heap.size ≤ k) (fun k _ h => h) (fun k hk _ => by first | omega | (have h2 := hEs; simp only [World.size_alloc] at h2; omega))
                      have HFN : Hid (Fl (fun k => w1.heap.size ≤ k) w1.heap.size wF v' ((rjT Z t p0 f c W ov (2 * i + (j + 1))).map toI)) := hide (by rw [show 2 * i + (j + 1) = 2 * i + j + 1 by omega, HTS1.out, List.map_append, HBE.out]; exact hFN)
                      have HBN : Hid (Below w1.heap.size w1 wF) := hide (hB.out.trans ((HB9.out.mono hBs).trans ((Below.refl _ W9).grown hgF (Nat.le_trans hBs hEs) (fun k hk => by
                        obtain ⟨vs, ho, _⟩ := hFE
                        exact (ho.lt k hk).1))))
                      subst hvF
                      clear hFF hgF hFN hFE hEs hBs
                      go_wp2_with fail
                      refine ⟨⟨j + 1, y + 2, by go_num, by omega, by omega, by omega, hide (by have := hy.out; omega), ⟨_, _, _, rfl⟩, HFN, HBN⟩, by simp [intOf]; omega⟩
        · obtain rfl : j = 2 := by omega
          have hyl : ¬ y ≤ 1 := by have := hy.out; omega
          have HFN : Hid (Fl (fun k => w1.heap.size ≤ k) w1.heap.size wr (.slice a10 n10 c10) ((rjT Z t p0 f c W ov (2 * (i + 1))).map toI)) := hFl
          clear hFl
          go_wp2_with fail
          refine ⟨⟨i + 1, x + 2, by go_num, by omega, by omega, by omega, hide (by have := hx.out; omega), ⟨_, _, _, rfl⟩, HFN, hB⟩, by simp [intOf]; omega⟩
    · obtain rfl : i = 2 := by omega
      have hxl : ¬ x ≤ 1 := by have := hx.out; omega
      have HFN : Hid (Fl (fun k => w.heap.size ≤ k) w.heap.size wr (.slice a10 n10 c10) (RS.map toI)) := hide (by
        rw [HRS.out]
        exact (hFl.out.wide (fun k _ h => by have := HB1.out.size; omega)).base HB1.out.size)
      clear hFl
      go_wp2_with fail
      go_ret
      exact ⟨_, rfl, HFN.out, HB1.out.trans (hB.out.mono HB1.out.size)⟩

theorem jumpsOn_all (Z : List Int) (t p0 : Nat) (hM : Mb Z t) (hp : p0 ∈ plc Z t) : ∀ f, f ≤ 13 → RJn Z t p0 f
  | 0, _ => fun c W ov az aw ao cz cw co w _ _ hF => by have := (hF.pos hM).1; omega
  | f + 1, hf => jumpsOn_succ Z t p0 f hM hp (by omega) (jumpsOn_all Z t p0 hM hp f (by omega))

end Go.Proofs.YtnbaangnpoblfaaDoor
