/-
  Chess: are kings and rooks where the rights need them: mayCastle, walked. No conditions beyond those that each theorem bears.
-/
import Derived.Test.YtdblmcihklcenaaDoorMc0
namespace Go.Proofs.YtdblmcihklcenaaDoor
open Go.RowKit Go.Shelf

attribute [local irreducible] cT sdP kgP rkP cas1 bitB pci pc

set_option maxRecDepth 100000 in
set_option maxHeartbeats 4000000 in
theorem mayCastle_any (a : Option Addr) (c : Nat) (Z : List Int) (t k e h f : Int) (w : World) (hz : Rd w a 64 c Z) (hC : TabC w) :
    Calls Tryd.prog 28 #[.agg (chA a 64 c t k e h f)] w fun e w' => e = .returned (.bool (dB (Cas Z k))) ∧ Below w.heap.size w w' := by
  obtain ⟨w1, hw1⟩ : ∃ w1, w.alloc (.cells (chA a 64 c t k e h f) 24) = w1 := ⟨_, rfl⟩
  have B1 : Below w.heap.size w w1 := by rw [← hw1]; exact (Below.refl _ w).alloc (Nat.le_refl _) _
  have C1 : Ch w1 w.heap.size a 64 c t k e h f := by rw [← hw1]; exact Ch.new w a 64 c t k e h f
  have HB1 := hide B1
  have HC1 := hide C1
  have HZ1 := hide (hz.mono B1)
  have HT1 := (hC.mono B1).range
  obtain ⟨g0, g1, g2, g3, g4, g5⟩ := C1.cells
  clear hz hC B1 C1
  by_cases hk : 0 ≤ k ∧ k ≤ 15
  · obtain ⟨kn, rfl⟩ := Int.eq_ofNat_of_zero_le hk.1
    have hkn : kn ≤ 15 := by omega
    have HYES : Hid ((∀ i, i < 4 → cas1 Z kn i) → dB (Cas Z kn) = true) := hide (fun hh => dB_t ⟨by omega, by omega, hh⟩)
    have HNO : Hid (∀ i, i < 4 → ¬ cas1 Z kn i → dB (Cas Z kn) = false) := hide (fun i hi hh => dB_f (fun hc => hh (hc.2.2 i hi)))
    have HC1I : Hid (∀ i, cas1 Z kn i ↔ (bitB kn i = true → zg Z (kgP i) = pc (sdP i) 6 ∧ zg Z (rkP i) = pc (sdP i) 4)) := hide (fun i => by unfold cas1; exact Iff.rfl)
    have HBA := hide (fun i (hi : i < 4) => bit_and (k := kn) (i := i) hkn hi)
    obtain ⟨rr, hrr⟩ : ∃ rr, dB (Cas Z kn) = rr := ⟨_, rfl⟩
    rw [hrr] at HYES HNO ⊢
    clear hrr
    obtain ⟨zb, zo, rfl, hzc⟩ := HZ1.out.cells (by omega)
    have hcm := HZ1.out.max
    unfold maxLen at hcm
    have hcc := HZ1.out.cap
    have HZC : Hid (∀ i, i < 64 → w1.cell? ⟨zb, zo + i, none⟩ = some (.int .i64 (zg Z i))) := hide hzc
    have HPO := hide pieceOf_int
    clear hzc
    go_enter Tryd.func28, Tryd.ntmps28
    go_upto_region 1 with fail
    clear hw1
    go_wp2_with (refine wpList_load_mid rfl 59 _ rfl 1 0 rfl (ivs cT) _ HT1 Tryd.underlying59 rfl (by rw [cT_len]; exact size59) ?_)
    clear HT1
    have HG0 := hide g0
    have HG2 := hide g2
    clear g0 g1 g2 g3 g4 g5
    go_loopw [14] (fun v wr => ∃ i : Nat, v = .int .i64 i ∧ i ≤ 4 ∧ Hid (∀ j, j < i → cas1 Z kn j) ∧ Hid (Below w1.heap.size w1 wr)) (fun v _ => 4 - (intOf v).toNat)
    case atStart => exact ⟨0, rfl, by omega, hide (fun j hj => absurd hj (by omega)), hide (Below.refl _ _)⟩
    case round =>
      obtain ⟨i, rfl, hi, hall, hbl⟩ := hrel
      by_cases hlt : i < 4
      · have hlt' : (i : Int) < 4 := by omega
        have hidx := run_cas i hlt
        obtain ⟨hki, hri, hsi⟩ := kr_lt hlt
        have HCI := hide (HC1I.out i)
        have HNI := hide (HNO.out i hlt)
        have hba := HBA.out i hlt
        have HNX : Hid (cas1 Z kn i → ∀ j, j < i + 1 → cas1 Z kn j) := hide (fun ho j hj => by
          by_cases e : j = i
          · subst e; exact ho
          · exact hall.out j (by omega))
        generalize sdP i = si at *
        generalize kgP i = ki at *
        generalize rkP i = ri at *
        obtain ⟨w2, hw2⟩ : ∃ w2, wr.alloc (.cells #[.int .i64 (si : Nat), .int .i64 (ki : Nat), .int .i64 (ri : Nat)] 58) = w2 := ⟨_, rfl⟩
        have B2 : Below w1.heap.size w1 w2 := by rw [← hw2]; exact hbl.out.alloc hbl.out.size _
        have D2 : Blk w2 wr.heap.size 58 [(si : Int), (ki : Int), (ri : Int)] := by rw [← hw2]; exact Blk.new wr 58 _ _ rfl
        have g2' := (B2.cell (p := ⟨w.heap.size, 2, none⟩) (World.block_lt_of_cell? w1 _ HG2.out)).trans HG2.out
        have HB2 := hide B2
        have HD2 := hide D2
        clear B2 D2 hbl
        go_upto_region 6 with fail
        clear hw2 hidx
        go_quiet (fail)
        have B3 : Below w1.heap.size w1 (w2.drewN nq) := HB2.out.trans (drewN_below _ _ _)
        have D3 : Blk (w2.drewN nq) wr.heap.size 58 [(si : Int), (ki : Int), (ri : Int)] := HD2.out.below (drewN_below _ _ _) HD2.out.lt
        have HB3 := hide B3
        have HD3 := hide D3
        clear B3 D3 HB2 HD2 g2'
        generalize w2.drewN nq = w3 at *
        generalize bits BinOp.and IntKind.i64 (kn : Int) (wrap64 (2 ^ i)) = bv at *
        clear hba
        cases hbb : bitB kn i with
        | false =>
          have HO1 := hide (HNX.out (HCI.out.2 (fun e => by rw [hbb] at e; exact absurd e (by simp))))
          clear HCI HNI HNX
          go_wp2_with fail
          exact ⟨⟨i + 1, by go_num, by omega, HO1, HB3⟩, by simp [intOf]; omega⟩
        | true =>
          have g0' := (HB3.out.cell (p := ⟨w.heap.size, 0, none⟩) (World.block_lt_of_cell? w1 _ HG0.out)).trans HG0.out
          have d0 := HD3.out.cell (i := 0) (by simp)
          have d1 := HD3.out.cell (i := 1) (by simp)
          have d2 := HD3.out.cell (i := 2) (by simp)
          have c1 := (HB3.out.cell (p := ⟨zb, zo + ki, none⟩) (World.block_lt_of_cell? w1 _ (HZC.out ki hki))).trans (HZC.out ki hki)
          have c2 := (HB3.out.cell (p := ⟨zb, zo + ri, none⟩) (World.block_lt_of_cell? w1 _ (HZC.out ri hri))).trans (HZC.out ri hri)
          have HCI' : Hid (cas1 Z kn i ↔ (zg Z ki = pc si 6 ∧ zg Z ri = pc si 4)) := hide ⟨fun h => HCI.out.1 h hbb, fun h => HCI.out.2 (fun _ => h)⟩
          clear HCI hbb
          have e6 := pci_6 si
          have e4 := pci_4 si
          obtain ⟨P6, hP6⟩ : ∃ P6, pc si 6 = P6 := ⟨_, rfl⟩
          obtain ⟨P4, hP4⟩ : ∃ P4, pc si 4 = P4 := ⟨_, rfl⟩
          rw [hP6] at HCI' e6
          rw [hP4] at HCI' e4
          clear hP6 hP4
          generalize zg Z ki = z1 at *
          generalize zg Z ri = z2 at *
          simp only [List.getD_cons_zero, List.getD_cons_succ] at d0 d1 d2
          by_cases h1 : z1 = P6
          · have b1 : (z1 != P6) = false := by simp [h1]
            by_cases h2 : z2 = P4
            · have b2 : (z2 != P4) = false := by simp [h2]
              have HO1 := hide (HNX.out (HCI'.out.2 ⟨h1, h2⟩))
              clear h1 h2 HCI' HNI HNX
              go_upto_region 7 with fail
              go_quiet (first | (go_at_call 35; exact Calls.quiet_of_same (HPO.out _ _ (by decide) _)))
              have HB4 : Hid (Below w1.heap.size w1 (w3.drewN nq)) := hide (HB3.out.trans (drewN_below _ _ _))
              generalize w3.drewN nq = w4 at *
              go_wp2_with fail
              exact ⟨⟨i + 1, by go_num, by omega, HO1, HB4⟩, by simp [intOf]; omega⟩
            · have b2 : (z2 != P4) = true := by simp [h2]
              have HF := hide (HNI.out (fun hh => h2 (HCI'.out.1 hh).2))
              clear h1 h2 HCI' HNI HNX
              go_upto_region 7 with fail
              go_quiet (first | (go_at_call 35; exact Calls.quiet_of_same (HPO.out _ _ (by decide) _)))
              have HB4 : Hid (Below w1.heap.size w1 (w3.drewN nq)) := hide (HB3.out.trans (drewN_below _ _ _))
              generalize w3.drewN nq = w4 at *
              go_wp2_with fail
              go_ret
              exact ⟨by rw [HF.out]; rfl, HB1.out.trans (HB4.out.mono HB1.out.size)⟩
          · have b1 : (z1 != P6) = true := by simp [h1]
            have HF := hide (HNI.out (fun hh => h1 (HCI'.out.1 hh).1))
            clear h1 HCI' HNI HNX
            go_upto_region 7 with fail
            go_quiet (first | (go_at_call 35; exact Calls.quiet_of_same (HPO.out _ _ (by decide) _)))
            have HB4 : Hid (Below w1.heap.size w1 (w3.drewN nq)) := hide (HB3.out.trans (drewN_below _ _ _))
            generalize w3.drewN nq = w4 at *
            go_wp2_with fail
            go_ret
            exact ⟨by rw [HF.out]; rfl, HB1.out.trans (HB4.out.mono HB1.out.size)⟩
      · obtain rfl : i = 4 := by omega
        have HF := hide (HYES.out hall.out)
        go_wp2_with fail
        go_ret
        exact ⟨by rw [HF.out]; rfl, HB1.out.trans (hbl.out.mono HB1.out.size)⟩
  · have hk2 : k < 0 ∨ 15 < k := by omega
    rw [show dB (Cas Z k) = false from dB_f (fun h => hk ⟨h.1, h.2.1⟩)]
    rcases hk2 with h | h
    · go_enter Tryd.func28, Tryd.ntmps28
      go_upto_region 1 with fail
      clear hw1
      go_wp2_with fail
      go_ret
      exact ⟨rfl, HB1.out⟩
    · have hk3 : ¬ k < 0 := by omega
      go_enter Tryd.func28, Tryd.ntmps28
      go_upto_region 1 with fail
      clear hw1
      go_wp2_with fail
      go_ret
      exact ⟨rfl, HB1.out⟩

end Go.Proofs.YtdblmcihklcenaaDoor
