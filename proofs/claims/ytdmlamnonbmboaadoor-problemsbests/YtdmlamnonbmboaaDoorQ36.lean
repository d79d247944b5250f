/-
  Chess: which positions may be, as the document says it: walked. No conditions beyond those that each theorem bears.
-/
import Derived.Test.YtdmlamnonbmboaaDoorQ11
namespace Go.Proofs.YtdmlamnonbmboaaDoor
open Go.RowKit Go.Shelf

theorem tab_shr : ((List.range 16).all fun k => (List.range 4).all fun i => (bits BinOp.and IntKind.i64 ((k : Int) / 2 ^ i) 1 == 1) == bitB (k : Int) i) = true := by decide +kernel
theorem bit_shr {k : Int} {i : Nat} (hk : 0 ≤ k ∧ k ≤ 15) (hi : i < 4) : (bits BinOp.and IntKind.i64 (k / 2 ^ i) 1 == 1) = bitB k i := by
  obtain ⟨n, rfl⟩ := Int.eq_ofNat_of_zero_le hk.1
  exact beq_iff_eq.1 (allN (allN tab_shr (show n < 16 by omega)) hi)
theorem kg_at {i : Nat} (hi : i < 4) : [(4 : Int), 4, 60, 60].getD i 0 = ((kgP i : Nat) : Int) ∧ [(7 : Int), 0, 63, 56].getD i 0 = ((rkP i : Nat) : Int) := by
  match i, hi with
  | 0, _ => decide
  | 1, _ => decide
  | 2, _ => decide
  | 3, _ => decide
theorem pc_at {i : Nat} (hi : i < 4) : (i < 2 → pc (sdP i) 6 = 6 ∧ pc (sdP i) 4 = 4) ∧ (¬ i < 2 → pc (sdP i) 6 = -6 ∧ pc (sdP i) 4 = -4) := by
  match i, hi with
  | 0, _ => decide
  | 1, _ => decide
  | 2, _ => decide
  | 3, _ => decide

attribute [local irreducible] cnt kgP rkP sdP cas1 bitB pc chk okS

set_option maxRecDepth 100000 in
set_option maxHeartbeats 16000000 in
theorem ChessMay_any (a : Option Addr) (n c : Nat) (Z : List Int) (t k e h f : Int) (he1 : -9223372036854775808 ≤ e) (he2 : e ≤ 9223372036854775807) (w : World) (hz : Rd w a n c Z) :
    Calls Tryd.prog 8 #[.agg (chA a n c t k e h f)] w fun r w' => r = .returned (.bool (dB (MayC Z t k e h f))) ∧ Below w.heap.size w w' := by
  have HDF : Hid ((¬ MayC Z t k e h f) → dB (MayC Z t k e h f) = false) := hide dB_f
  have HDT : Hid (MayC Z t k e h f → dB (MayC Z t k e h f) = true) := hide dB_t
  have HMI : Hid (MayC Z t k e h f ↔ (Std Z ∧ (t = 0 ∨ t = 1) ∧ Cas Z k ∧ Pas Z t e ∧ 0 ≤ h ∧ h ≤ 999 ∧ 1 ≤ f ∧ f ≤ 999 ∧ chk Z (1 - t).toNat = false)) := hide Iff.rfl
  obtain ⟨rr, hrr⟩ : ∃ rr, dB (MayC Z t k e h f) = rr := ⟨_, rfl⟩
  rw [hrr] at HDF HDT ⊢
  clear hrr
  have hlen := hz.len
  have hcm := hz.max
  unfold maxLen at hcm
  have hcc := hz.cap
  obtain ⟨w1, hw1⟩ : ∃ w1, w.alloc (.cells (chA a n c t k e h f) 24) = w1 := ⟨_, rfl⟩
  have B1 : Below w.heap.size w w1 := by rw [← hw1]; exact (Below.refl _ w).alloc (Nat.le_refl _) _
  have C1 : Ch w1 w.heap.size a n c t k e h f := by rw [← hw1]; exact Ch.new w a n c t k e h f
  have HB1 := hide B1
  have HCH : Hid (∀ W, Below w1.heap.size w1 W → Ch W w.heap.size a n c t k e h f) := hide (fun W hb => C1.below hb C1.lt)
  have HZ1 := hide (hz.mono B1)
  have HWI := hide within_any
  obtain ⟨g0, g1, g2, g3, g4, g5⟩ := C1.cells
  clear hz B1 C1
  by_cases hn : n = 64
  · subst hn
    by_cases ht : 0 ≤ t ∧ t ≤ 1
    · by_cases hk : 0 ≤ k ∧ k ≤ 15
      · by_cases hh : 0 ≤ h ∧ h ≤ 999
        · by_cases hf : 1 ≤ f ∧ f ≤ 999
          · have HWT : Hid (∀ w, Calls Tryd.prog 24 #[.int .i64 t, .int .i64 0, .int .i64 1] w fun e w' => e = .returned (.bool true) ∧ w' = w) := hide (fun w => by have := HWI.out t 0 1 w; rwa [decide_eq_true ht] at this)
            have HWK : Hid (∀ w, Calls Tryd.prog 24 #[.int .i64 k, .int .i64 0, .int .i64 15] w fun e w' => e = .returned (.bool true) ∧ w' = w) := hide (fun w => by have := HWI.out k 0 15 w; rwa [decide_eq_true hk] at this)
            have HWH : Hid (∀ w, Calls Tryd.prog 24 #[.int .i64 h, .int .i64 0, .int .i64 999] w fun e w' => e = .returned (.bool true) ∧ w' = w) := hide (fun w => by have := HWI.out h 0 999 w; rwa [decide_eq_true hh] at this)
            have HWF : Hid (∀ w, Calls Tryd.prog 24 #[.int .i64 f, .int .i64 1, .int .i64 999] w fun e w' => e = .returned (.bool true) ∧ w' = w) := hide (fun w => by have := HWI.out f 1 999 w; rwa [decide_eq_true hf] at this)
            go_enter Tryd.func8, Tryd.ntmps8
            go_upto_region 1 with fail
            clear hw1
            go_wp2_with fail
            refine (HWT.out _).mono ?_
            rintro r w2 ⟨rfl, hw⟩
            subst w2
            go_wp2_with fail
            refine (HWK.out _).mono ?_
            rintro r w2 ⟨rfl, hw⟩
            subst w2
            go_wp2_with fail
            refine (HWH.out _).mono ?_
            rintro r w2 ⟨rfl, hw⟩
            subst w2
            go_wp2_with fail
            refine (HWF.out _).mono ?_
            rintro r w2 ⟨rfl, hw⟩
            subst w2
            clear HWT HWK HWH HWF
            obtain ⟨zb, zo, rfl, hzc⟩ := HZ1.out.cells (by omega)
            have HZC : Hid (∀ i, i < 64 → w1.cell? ⟨zb, zo + i, none⟩ = some (.int .i64 (zg Z i))) := hide hzc
            clear hzc
            go_wp2_with fail
            go_loopw [3, 4, 5] (fun u3 u4 v wr => ∃ i : Nat, v = .int .i64 i ∧ i ≤ 64 ∧ u3 = .int .i64 (cnt Z 6 i : Nat) ∧ u4 = .int .i64 (cnt Z (-6) i : Nat) ∧ Hid (∀ j, j < i → okS Z j) ∧ w1 = wr) (fun _ _ v _ => 64 - (intOf v).toNat)
            case atStart => exact ⟨0, rfl, by omega, by rw [cnt_zero]; rfl, by rw [cnt_zero]; rfl, hide (fun j hj => absurd hj (by omega)), rfl⟩
            case round =>
              obtain ⟨i, rfl, hi, rfl, rfl, hok, rfl⟩ := hrel
              by_cases hlt : i < 64
              · have hlt' : (i : Int) < 64 := by omega
                have cz := HZC.out i hlt
                have HOK : Hid (okS Z i ↔ (-6 ≤ zg Z i ∧ zg Z i ≤ 6 ∧ ((zg Z i).natAbs = 1 → 8 ≤ i ∧ i < 56))) := hide (by unfold okS; exact Iff.rfl)
                have HNI : Hid (¬ okS Z i → rr = false) := hide (fun ho => HDF.out (fun H => ho ((HMI.out.1 H).1.2.1 i hlt)))
                have HC6 := hide (cnt_succ Z 6 i)
                have HCM := hide (cnt_succ Z (-6) i)
                have l6 := cnt_le Z 6 i
                have lm := cnt_le Z (-6) i
                have HNX : Hid (okS Z i → ∀ j, j < i + 1 → okS Z j) := hide (fun ho j hj => by
                  by_cases e : j = i
                  · subst e; exact ho
                  · exact hok.out j (by omega))
                have HWZ := hide (HWI.out (zg Z i) (-6) 6)
                generalize cnt Z 6 i = n6 at *
                generalize cnt Z (-6) i = nm at *
                generalize zg Z i = z at *
                by_cases hr : -6 ≤ z ∧ z ≤ 6
                · rw [decide_eq_true hr] at HWZ
                  have HSZ := hide (size_any z (by omega) (by omega))
                  obtain ⟨x, hx⟩ : ∃ x, z.natAbs = x := ⟨_, rfl⟩
                  rw [hx] at HSZ HOK
                  by_cases hp : x = 1
                  · subst hp
                    by_cases h3 : i < 8
                    · have HF := hide (HNI.out (fun ho => by have := ((HOK.out.1 ho).2.2 rfl).1; omega))
                      have h3' : (i : Int) < 8 := by omega
                      clear HOK HNI HNX HC6 HCM hx
                      go_wp2_with (first | (go_at_call 24; refine (HWZ.out _).mono ?_; rintro r w5 ⟨rfl, hw⟩; subst w5) | (go_at_call 25; refine (HSZ.out _).mono ?_; rintro r w5 ⟨rfl, hw⟩; subst w5))
                      go_ret
                      exact ⟨by rw [HF.out]; rfl, HB1.out⟩
                    · by_cases h4 : i < 56
                      · have HO1 := hide (HNX.out (HOK.out.2 ⟨hr.1, hr.2, fun _ => ⟨by omega, h4⟩⟩))
                        rw [if_neg (by omega)] at HC6 HCM
                        have z6 : (z == 6) = false := by simp; omega
                        have zm : (z == -6) = false := by simp; omega
                        clear HOK HNI HNX hx
                        go_wp2_with (first | (go_at_call 24; refine (HWZ.out _).mono ?_; rintro r w5 ⟨rfl, hw⟩; subst w5) | (go_at_call 25; refine (HSZ.out _).mono ?_; rintro r w5 ⟨rfl, hw⟩; subst w5))
                        exact ⟨⟨i + 1, by go_num, by omega, by first | (rw [HC6.out]; done) | (rw [HC6.out]; rfl) | (rw [HC6.out]; go_num), by first | (rw [HCM.out]; done) | (rw [HCM.out]; rfl) | (rw [HCM.out]; go_num), HO1, trivial⟩, by simp [intOf]; omega⟩
                      · have HF := hide (HNI.out (fun ho => by have := ((HOK.out.1 ho).2.2 rfl).2; omega))
                        clear HOK HNI HNX HC6 HCM hx
                        go_wp2_with (first | (go_at_call 24; refine (HWZ.out _).mono ?_; rintro r w5 ⟨rfl, hw⟩; subst w5) | (go_at_call 25; refine (HSZ.out _).mono ?_; rintro r w5 ⟨rfl, hw⟩; subst w5))
                        go_ret
                        exact ⟨by rw [HF.out]; rfl, HB1.out⟩
                  · have HO1 := hide (HNX.out (HOK.out.2 ⟨hr.1, hr.2, fun e => absurd e hp⟩))
                    have hp' : ((x : Int) == 1) = false := by simp; omega
                    clear HOK HNI HNX
                    by_cases z6 : z = 6
                    · subst z6
                      rw [if_pos rfl] at HC6
                      rw [if_neg (by decide)] at HCM
                      clear hx
                      go_wp2_with (first | (go_at_call 24; refine (HWZ.out _).mono ?_; rintro r w5 ⟨rfl, hw⟩; subst w5) | (go_at_call 25; refine (HSZ.out _).mono ?_; rintro r w5 ⟨rfl, hw⟩; subst w5))
                      exact ⟨⟨i + 1, by go_num, by omega, by first | (rw [HC6.out]; done) | (rw [HC6.out]; rfl) | (rw [HC6.out]; go_num), by first | (rw [HCM.out]; done) | (rw [HCM.out]; rfl) | (rw [HCM.out]; go_num), HO1, trivial⟩, by simp [intOf]; omega⟩
                    · have z6' : (z == 6) = false := by simp [z6]
                      rw [if_neg z6] at HC6
                      by_cases zm : z = -6
                      · subst zm
                        rw [if_pos rfl] at HCM
                        clear hx
                        go_wp2_with (first | (go_at_call 24; refine (HWZ.out _).mono ?_; rintro r w5 ⟨rfl, hw⟩; subst w5) | (go_at_call 25; refine (HSZ.out _).mono ?_; rintro r w5 ⟨rfl, hw⟩; subst w5))
                        exact ⟨⟨i + 1, by go_num, by omega, by first | (rw [HC6.out]; done) | (rw [HC6.out]; rfl) | (rw [HC6.out]; go_num), by first | (rw [HCM.out]; done) | (rw [HCM.out]; rfl) | (rw [HCM.out]; go_num), HO1, trivial⟩, by simp [intOf]; omega⟩
                      · have zm' : (z == -6) = false := by simp [zm]
                        rw [if_neg zm] at HCM
                        clear hx
                        go_wp2_with (first | (go_at_call 24; refine (HWZ.out _).mono ?_; rintro r w5 ⟨rfl, hw⟩; subst w5) | (go_at_call 25; refine (HSZ.out _).mono ?_; rintro r w5 ⟨rfl, hw⟩; subst w5))
                        exact ⟨⟨i + 1, by go_num, by omega, by first | (rw [HC6.out]; done) | (rw [HC6.out]; rfl) | (rw [HC6.out]; go_num), by first | (rw [HCM.out]; done) | (rw [HCM.out]; rfl) | (rw [HCM.out]; go_num), HO1, trivial⟩, by simp [intOf]; omega⟩
                · rw [decide_eq_false hr] at HWZ
                  have HF := hide (HNI.out (fun ho => hr ⟨(HOK.out.1 ho).1, (HOK.out.1 ho).2.1⟩))
                  clear HOK HNI HNX HC6 HCM
                  go_wp2_with (go_at_call 24; refine (HWZ.out _).mono ?_; rintro r w5 ⟨rfl, hw⟩; subst w5)
                  go_ret
                  exact ⟨by rw [HF.out]; rfl, HB1.out⟩
              · obtain rfl : i = 64 := by omega
                by_cases h6 : cnt Z 6 64 = 1
                · by_cases hm : cnt Z (-6) 64 = 1
                  · have hS : Std Z := ⟨hlen, hok.out, h6, hm⟩
                    rw [h6, hm]
                    clear h6 hm
                    obtain ⟨tn, htn, htb⟩ : ∃ tn : Nat, t = (tn : Int) ∧ tn ≤ 1 := ⟨t.toNat, by omega, by omega⟩
                    have htt : (1 - t).toNat = 1 - tn := by omega
                    obtain ⟨ot, hot⟩ : ∃ ot, 1 - tn = ot := ⟨_, rfl⟩
                    have h1t : (1 : Int) - t = (ot : Int) := by omega
                    have HIC := hide (InCheck_std (some ⟨zb, zo, none⟩) c Z ot (by omega) hS w1 HZ1.out)
                    have HMJ : Hid (MayC Z t k e h f ↔ (Cas Z k ∧ Pas Z t e ∧ chk Z ot = false)) := hide ⟨fun H => ⟨(HMI.out.1 H).2.2.1, (HMI.out.1 H).2.2.2.1, by rw [← hot, ← htt]; exact (HMI.out.1 H).2.2.2.2.2.2.2.2⟩, fun H => HMI.out.2 ⟨hS, by omega, H.1, H.2.1, hh.1, hh.2, hf.1, hf.2, by rw [htt, hot]; exact H.2.2⟩⟩
                    clear HMI htt hot hok hS htn
                    go_wp2_with fail
                    refine HIC.out.mono ?_
                    rintro r w2 ⟨rfl, hb2⟩
                    have HB2 := hide hb2
                    clear hb2 HIC h1t g0 g1 g2 g3 g4 g5
                    cases hck : chk Z ot with
                    | true =>
                      have HF := hide (HDF.out (fun H => by have := (HMJ.out.1 H).2.2; rw [hck] at this; exact absurd this (by simp)))
                      go_wp2_with fail
                      go_ret
                      exact ⟨by rw [HF.out]; rfl, HB1.out.trans (HB2.out.mono HB1.out.size)⟩
                    | false =>
                      obtain ⟨w3, hw3⟩ : ∃ w3, w2.alloc (.cells #[.int .i64 4, .int .i64 4, .int .i64 60, .int .i64 60] 3) = w3 := ⟨_, rfl⟩
                      obtain ⟨w4, hw4⟩ : ∃ w4, w3.alloc (.cells #[.int .i64 7, .int .i64 0, .int .i64 63, .int .i64 56] 3) = w4 := ⟨_, rfl⟩
                      have HK4 : Hid (Blk w4 w2.heap.size 3 [4, 4, 60, 60]) := hide (by rw [← hw4]; refine Blk.old ?_ _; rw [← hw3]; exact Blk.new w2 3 _ _ rfl)
                      have HR4 : Hid (Blk w4 w3.heap.size 3 [7, 0, 63, 56]) := hide (by rw [← hw4]; exact Blk.new w3 3 _ _ rfl)
                      have HB4 : Hid (Below w1.heap.size w1 w4) := hide (by rw [← hw4, ← hw3]; exact (HB2.out.alloc HB2.out.size _).alloc (by have := HB2.out.size; simp; omega) _)
                      go_upto_region 17 with fail
                      clear hw3 hw4
                      obtain ⟨kn, hkn, hknb⟩ : ∃ kn : Nat, k = (kn : Int) ∧ kn ≤ 15 := ⟨k.toNat, by omega, by omega⟩
                      have HKN := hide hkn
                      clear hkn
                      go_wp2_with fail
                      go_loopw [9] (fun v wr => ∃ i : Nat, v = .int .i64 i ∧ i ≤ 4 ∧ Hid (∀ j, j < i → cas1 Z k j) ∧ Hid (Below w4.heap.size w4 wr)) (fun v _ => 4 - (intOf v).toNat)
                      case atStart => exact ⟨0, rfl, by omega, hide (fun j hj => absurd hj (by omega)), hide (Below.refl _ _)⟩
                      case round =>
                        obtain ⟨i, rfl, hi, hall, hbl⟩ := hrel
                        have HBX : Hid (Below w1.heap.size w1 wr) := hide (HB4.out.trans (hbl.out.mono HB4.out.size))
                        obtain ⟨g0, g1, g2, g3, g4, g5⟩ := (HCH.out wr HBX.out).cells
                        have HZX : Hid (∀ i, i < 64 → wr.cell? ⟨zb, zo + i, none⟩ = some (.int .i64 (zg Z i))) := hide (fun i hi => (HBX.out.cell (p := ⟨zb, zo + i, none⟩) (World.block_lt_of_cell? w1 _ (HZC.out i hi))).trans (HZC.out i hi))
                        by_cases hlt : i < 4
                        · have hlt' : (i : Int) < 4 := by omega
                          have ck := (HK4.out.below hbl.out HK4.out.lt).cell (i := i) (by simp; omega)
                          have cr := (HR4.out.below hbl.out HR4.out.lt).cell (i := i) (by simp; omega)
                          rw [(kg_at hlt).1] at ck
                          rw [(kg_at hlt).2] at cr
                          obtain ⟨hki, hri, -⟩ := kr_lt hlt
                          have c1 := HZX.out _ hki
                          have c2 := HZX.out _ hri
                          have hbt := bit_shr hk hlt
                          have hpa := pc_at hlt
                          have HCI : Hid (cas1 Z k i ↔ (bitB k i = true → zg Z (kgP i) = pc (sdP i) 6 ∧ zg Z (rkP i) = pc (sdP i) 4)) := hide (by unfold cas1; exact Iff.rfl)
                          have HNI : Hid (¬ cas1 Z k i → rr = false) := hide (fun ho => HDF.out (fun H => ho ((HMJ.out.1 H).1.2.2 i hlt)))
                          have HNX : Hid (cas1 Z k i → ∀ j, j < i + 1 → cas1 Z k j) := hide (fun ho j hj => by
                            by_cases e : j = i
                            · subst e; exact ho
                            · exact hall.out j (by omega))
                          generalize kgP i = ki at *
                          generalize rkP i = ri at *
                          clear HZX
                          by_cases h2 : i < 2
                          · obtain ⟨p6, p4⟩ := hpa.1 h2
                            rw [p6, p4] at HCI
                            clear p6 p4 hpa
                            have h2' : (i : Int) < 2 := by omega
                            cases hbb : bitB k i with
                            | false =>
                              rw [hbb] at hbt
                              have HO1 := hide (HNX.out (HCI.out.2 (fun e => by rw [hbb] at e; exact absurd e (by simp))))
                              clear HCI HNI HNX hbb
                              go_upto_region 23 with fail
                              go_quiet (fail)
                              have HB5 : Hid (Below w4.heap.size w4 (wr.drewN nq)) := hide (hbl.out.trans (drewN_below _ _ _))
                              generalize wr.drewN nq = w5 at *
                              go_wp2_with fail
                              exact ⟨⟨i + 1, by go_num, by omega, HO1, HB5⟩, by simp [intOf]; omega⟩
                            | true =>
                              rw [hbb] at hbt
                              have HCI' : Hid (cas1 Z k i ↔ (zg Z ki = 6 ∧ zg Z ri = 4)) := hide ⟨fun h => HCI.out.1 h hbb, fun h => HCI.out.2 (fun _ => h)⟩
                              clear HCI hbb
                              generalize zg Z ki = z1 at *
                              generalize zg Z ri = z2 at *
                              by_cases q1 : z1 = 6
                              · have b1 : (z1 != 6) = false := by simp [q1]
                                by_cases q2 : z2 = 4
                                · have b2 : (z2 != 4) = false := by simp [q2]
                                  have HO1 := hide (HNX.out (HCI'.out.2 ⟨q1, q2⟩))
                                  clear q1 q2 HCI' HNI HNX
                                  go_upto_region 23 with fail
                                  go_quiet (fail)
                                  have HB5 : Hid (Below w4.heap.size w4 (wr.drewN nq)) := hide (hbl.out.trans (drewN_below _ _ _))
                                  generalize wr.drewN nq = w5 at *
                                  go_wp2_with fail
                                  exact ⟨⟨i + 1, by go_num, by omega, HO1, HB5⟩, by simp [intOf]; omega⟩
                                · have b2 : (z2 != 4) = true := by simp [q2]
                                  have HF := hide (HNI.out (fun hh => q2 (HCI'.out.1 hh).2))
                                  clear q1 q2 HCI' HNI HNX
                                  go_upto_region 23 with fail
                                  go_quiet (fail)
                                  have HB5 : Hid (Below w1.heap.size w1 (wr.drewN nq)) := hide (HBX.out.trans (drewN_below _ _ _))
                                  generalize wr.drewN nq = w5 at *
                                  go_wp2_with fail
                                  go_ret
                                  exact ⟨by rw [HF.out]; rfl, HB1.out.trans (HB5.out.mono HB1.out.size)⟩
                              · have b1 : (z1 != 6) = true := by simp [q1]
                                have HF := hide (HNI.out (fun hh => q1 (HCI'.out.1 hh).1))
                                clear q1 HCI' HNI HNX
                                go_upto_region 23 with fail
                                go_quiet (fail)
                                have HB5 : Hid (Below w1.heap.size w1 (wr.drewN nq)) := hide (HBX.out.trans (drewN_below _ _ _))
                                generalize wr.drewN nq = w5 at *
                                go_wp2_with fail
                                go_ret
                                exact ⟨by rw [HF.out]; rfl, HB1.out.trans (HB5.out.mono HB1.out.size)⟩
                          · obtain ⟨p6, p4⟩ := hpa.2 h2
                            rw [p6, p4] at HCI
                            clear p6 p4 hpa
                            have h2' : (2 : Int) ≤ (i : Int) := by omega
                            cases hbb : bitB k i with
                            | false =>
                              rw [hbb] at hbt
                              have HO1 := hide (HNX.out (HCI.out.2 (fun e => by rw [hbb] at e; exact absurd e (by simp))))
                              clear HCI HNI HNX hbb
                              go_upto_region 23 with fail
                              go_quiet (fail)
                              have HB5 : Hid (Below w4.heap.size w4 (wr.drewN nq)) := hide (hbl.out.trans (drewN_below _ _ _))
                              generalize wr.drewN nq = w5 at *
                              go_wp2_with fail
                              exact ⟨⟨i + 1, by go_num, by omega, HO1, HB5⟩, by simp [intOf]; omega⟩
                            | true =>
                              rw [hbb] at hbt
                              have HCI' : Hid (cas1 Z k i ↔ (zg Z ki = -6 ∧ zg Z ri = -4)) := hide ⟨fun h => HCI.out.1 h hbb, fun h => HCI.out.2 (fun _ => h)⟩
                              clear HCI hbb
                              generalize zg Z ki = z1 at *
                              generalize zg Z ri = z2 at *
                              by_cases q1 : z1 = -6
                              · have b1 : (z1 != -6) = false := by simp [q1]
                                by_cases q2 : z2 = -4
                                · have b2 : (z2 != -4) = false := by simp [q2]
                                  have HO1 := hide (HNX.out (HCI'.out.2 ⟨q1, q2⟩))
                                  clear q1 q2 HCI' HNI HNX
                                  go_upto_region 23 with fail
                                  go_quiet (fail)
                                  have HB5 : Hid (Below w4.heap.size w4 (wr.drewN nq)) := hide (hbl.out.trans (drewN_below _ _ _))
                                  generalize wr.drewN nq = w5 at *
                                  go_wp2_with fail
                                  exact ⟨⟨i + 1, by go_num, by omega, HO1, HB5⟩, by simp [intOf]; omega⟩
                                · have b2 : (z2 != -4) = true := by simp [q2]
                                  have HF := hide (HNI.out (fun hh => q2 (HCI'.out.1 hh).2))
                                  clear q1 q2 HCI' HNI HNX
                                  go_upto_region 23 with fail
                                  go_quiet (fail)
                                  have HB5 : Hid (Below w1.heap.size w1 (wr.drewN nq)) := hide (HBX.out.trans (drewN_below _ _ _))
                                  generalize wr.drewN nq = w5 at *
                                  go_wp2_with fail
                                  go_ret
                                  exact ⟨by rw [HF.out]; rfl, HB1.out.trans (HB5.out.mono HB1.out.size)⟩
                              · have b1 : (z1 != -6) = true := by simp [q1]
                                have HF := hide (HNI.out (fun hh => q1 (HCI'.out.1 hh).1))
                                clear q1 HCI' HNI HNX
                                go_upto_region 23 with fail
                                go_quiet (fail)
                                have HB5 : Hid (Below w1.heap.size w1 (wr.drewN nq)) := hide (HBX.out.trans (drewN_below _ _ _))
                                generalize wr.drewN nq = w5 at *
                                go_wp2_with fail
                                go_ret
                                exact ⟨by rw [HF.out]; rfl, HB1.out.trans (HB5.out.mono HB1.out.size)⟩
                        · obtain rfl : i = 4 := by omega
                          have HMK : Hid (MayC Z t k e h f ↔ Pas Z t e) := hide ⟨fun H => (HMJ.out.1 H).2.1, fun H => HMJ.out.2 ⟨⟨hk.1, hk.2, hall.out⟩, H, hck⟩⟩
                          have HBF : Hid (Below w.heap.size w wr) := hide (HB1.out.trans (HBX.out.mono HB1.out.size))
                          clear HMJ hall hbl HBX
                          by_cases hem : e = -1
                          · have HF := hide (HDT.out (HMK.out.2 (Or.inl hem)))
                            subst hem
                            clear HDF HDT HMK
                            go_wp2_with fail
                            go_ret
                            exact ⟨by rw [HF.out]; rfl, HBF.out⟩
                          · unfold Pas at HMK
                            have ht2 : t = 0 ∨ t = 1 := by omega
                            clear ht
                            rcases ht2 with rfl | rfl
                            · have HWE := hide (HWI.out e 40 47)
                              by_cases hr : 40 ≤ e ∧ e ≤ 47
                              · rw [decide_eq_true hr] at HWE
                                obtain ⟨en, rfl⟩ := Int.eq_ofNat_of_zero_le (show 0 ≤ e by omega)
                                obtain ⟨pp, hpp⟩ : ∃ pp, en + 8 = pp := ⟨_, rfl⟩
                                obtain ⟨mm, hmm⟩ : ∃ mm, en - 8 = mm := ⟨_, rfl⟩
                                rw [Int.toNat_natCast, hpp, hmm] at HMK
                                have cp := HZX.out pp (by omega)
                                have cm := HZX.out mm (by omega)
                                have ce := HZX.out en (by omega)
                                have e1 : (en : Int) + 8 = (pp : Int) := by omega
                                have e2 : (en : Int) - 8 = (mm : Int) := by omega
                                have hppb : pp < 64 := by omega
                                have hmmb : mm < 64 := by omega
                                have henb : en < 64 := by omega
                                clear hpp hmm HZX
                                generalize zg Z pp = zp at *
                                generalize zg Z mm = zm at *
                                generalize zg Z en = ze at *
                                have hem2 : ((en : Int) == -1) = false := by simp
                                by_cases k1 : ze = 0
                                · by_cases k2 : zm = -1
                                  · by_cases k3 : zp = 0
                                    · have HF := hide (HDT.out (HMK.out.2 (Or.inr (Or.inl ⟨rfl, hr.1, hr.2, k1, k2, k3⟩))))
                                      subst k1 k2 k3
                                      clear HDF HDT HMK
                                      go_wp2_with (go_at_call 24; refine (HWE.out _).mono ?_; rintro r w5 ⟨rfl, hw⟩; subst w5)
                                      go_ret
                                      exact ⟨by rw [HF.out]; rfl, HBF.out⟩
                                    · have k3' : (zp == 0) = false := by simp [k3]
                                      have HF := hide (HDF.out (fun H => by
                                        rcases HMK.out.1 H with h | h | h
                                        · exact hem h
                                        · exact k3 h.2.2.2.2.2
                                        · exact absurd h.1 (by decide)))
                                      subst k1 k2
                                      clear HDF HDT HMK k3
                                      go_wp2_with (go_at_call 24; refine (HWE.out _).mono ?_; rintro r w5 ⟨rfl, hw⟩; subst w5)
                                      go_ret
                                      exact ⟨by rw [HF.out]; rfl, HBF.out⟩
                                  · have k2' : (zm == -1) = false := by simp [k2]
                                    have HF := hide (HDF.out (fun H => by
                                      rcases HMK.out.1 H with h | h | h
                                      · exact hem h
                                      · exact k2 h.2.2.2.2.1
                                      · exact absurd h.1 (by decide)))
                                    subst k1
                                    clear HDF HDT HMK k2
                                    go_wp2_with (go_at_call 24; refine (HWE.out _).mono ?_; rintro r w5 ⟨rfl, hw⟩; subst w5)
                                    go_ret
                                    exact ⟨by rw [HF.out]; rfl, HBF.out⟩
                                · have k1' : (ze == 0) = false := by simp [k1]
                                  have HF := hide (HDF.out (fun H => by
                                    rcases HMK.out.1 H with h | h | h
                                    · exact hem h
                                    · exact k1 h.2.2.2.1
                                    · exact absurd h.1 (by decide)))
                                  clear HDF HDT HMK k1
                                  go_wp2_with (go_at_call 24; refine (HWE.out _).mono ?_; rintro r w5 ⟨rfl, hw⟩; subst w5)
                                  go_ret
                                  exact ⟨by rw [HF.out]; rfl, HBF.out⟩
                              · rw [decide_eq_false hr] at HWE
                                have hem2 : (e == -1) = false := by simp [hem]
                                have HF := hide (HDF.out (fun H => by
                                  rcases HMK.out.1 H with h | h | h
                                  · exact hem h
                                  · exact hr ⟨h.2.1, h.2.2.1⟩
                                  · exact absurd h.1 (by decide)))
                                clear HDF HDT HMK 
                                go_wp2_with (go_at_call 24; refine (HWE.out _).mono ?_; rintro r w5 ⟨rfl, hw⟩; subst w5)
                                go_ret
                                exact ⟨by rw [HF.out]; rfl, HBF.out⟩
                            · have HWE := hide (HWI.out e 16 23)
                              by_cases hr : 16 ≤ e ∧ e ≤ 23
                              · rw [decide_eq_true hr] at HWE
                                obtain ⟨en, rfl⟩ := Int.eq_ofNat_of_zero_le (show 0 ≤ e by omega)
                                obtain ⟨pp, hpp⟩ : ∃ pp, en + 8 = pp := ⟨_, rfl⟩
                                obtain ⟨mm, hmm⟩ : ∃ mm, en - 8 = mm := ⟨_, rfl⟩
                                rw [Int.toNat_natCast, hpp, hmm] at HMK
                                have cp := HZX.out pp (by omega)
                                have cm := HZX.out mm (by omega)
                                have ce := HZX.out en (by omega)
                                have e1 : (en : Int) + 8 = (pp : Int) := by omega
                                have e2 : (en : Int) - 8 = (mm : Int) := by omega
                                have hppb : pp < 64 := by omega
                                have hmmb : mm < 64 := by omega
                                have henb : en < 64 := by omega
                                clear hpp hmm HZX
                                generalize zg Z pp = zp at *
                                generalize zg Z mm = zm at *
                                generalize zg Z en = ze at *
                                have hem2 : ((en : Int) == -1) = false := by simp
                                by_cases k1 : ze = 0
                                · by_cases k2 : zp = 1
                                  · by_cases k3 : zm = 0
                                    · have HF := hide (HDT.out (HMK.out.2 (Or.inr (Or.inr ⟨rfl, hr.1, hr.2, k1, k2, k3⟩))))
                                      subst k1 k2 k3
                                      clear HDF HDT HMK
                                      go_wp2_with (go_at_call 24; refine (HWE.out _).mono ?_; rintro r w5 ⟨rfl, hw⟩; subst w5)
                                      go_ret
                                      exact ⟨by rw [HF.out]; rfl, HBF.out⟩
                                    · have k3' : (zm == 0) = false := by simp [k3]
                                      have HF := hide (HDF.out (fun H => by
                                        rcases HMK.out.1 H with h | h | h
                                        · exact hem h
                                        · exact absurd h.1 (by decide)
                                        · exact k3 h.2.2.2.2.2))
                                      subst k1 k2
                                      clear HDF HDT HMK k3
                                      go_wp2_with (go_at_call 24; refine (HWE.out _).mono ?_; rintro r w5 ⟨rfl, hw⟩; subst w5)
                                      go_ret
                                      exact ⟨by rw [HF.out]; rfl, HBF.out⟩
                                  · have k2' : (zp == 1) = false := by simp [k2]
                                    have HF := hide (HDF.out (fun H => by
                                      rcases HMK.out.1 H with h | h | h
                                      · exact hem h
                                      · exact absurd h.1 (by decide)
                                      · exact k2 h.2.2.2.2.1))
                                    subst k1
                                    clear HDF HDT HMK k2
                                    go_wp2_with (go_at_call 24; refine (HWE.out _).mono ?_; rintro r w5 ⟨rfl, hw⟩; subst w5)
                                    go_ret
                                    exact ⟨by rw [HF.out]; rfl, HBF.out⟩
                                · have k1' : (ze == 0) = false := by simp [k1]
                                  have HF := hide (HDF.out (fun H => by
                                    rcases HMK.out.1 H with h | h | h
                                    · exact hem h
                                    · exact absurd h.1 (by decide)
                                    · exact k1 h.2.2.2.1))
                                  clear HDF HDT HMK k1
                                  go_wp2_with (go_at_call 24; refine (HWE.out _).mono ?_; rintro r w5 ⟨rfl, hw⟩; subst w5)
                                  go_ret
                                  exact ⟨by rw [HF.out]; rfl, HBF.out⟩
                              · rw [decide_eq_false hr] at HWE
                                have hem2 : (e == -1) = false := by simp [hem]
                                have HF := hide (HDF.out (fun H => by
                                  rcases HMK.out.1 H with h | h | h
                                  · exact hem h
                                  · exact absurd h.1 (by decide)
                                  · exact hr ⟨h.2.1, h.2.2.1⟩))
                                clear HDF HDT HMK 
                                go_wp2_with (go_at_call 24; refine (HWE.out _).mono ?_; rintro r w5 ⟨rfl, hw⟩; subst w5)
                                go_ret
                                exact ⟨by rw [HF.out]; rfl, HBF.out⟩
                  · have HF := hide (HDF.out (fun H => hm (HMI.out.1 H).1.2.2.2))
                    rw [h6]
                    have hm' : (((cnt Z (-6) 64 : Nat) : Int) != 1) = true := by simp; omega
                    generalize cnt Z (-6) 64 = nm at *
                    clear HMI HDF HDT
                    go_wp2_with fail
                    go_ret
                    exact ⟨by rw [HF.out]; rfl, HB1.out⟩
                · have HF := hide (HDF.out (fun H => h6 (HMI.out.1 H).1.2.2.1))
                  have h6' : (((cnt Z 6 64 : Nat) : Int) != 1) = true := by simp; omega
                  have lm := cnt_le Z (-6) 64
                  generalize cnt Z (-6) 64 = nm at *
                  generalize cnt Z 6 64 = n6 at *
                  clear HMI HDF HDT
                  go_wp2_with fail
                  go_ret
                  exact ⟨by rw [HF.out]; rfl, HB1.out⟩
          · have HF := hide (HDF.out (fun H => hf ⟨(HMI.out.1 H).2.2.2.2.2.2.1, (HMI.out.1 H).2.2.2.2.2.2.2.1⟩))
            clear HDF HDT HMI
            have HWT : Hid (∀ w, Calls Tryd.prog 24 #[.int .i64 t, .int .i64 0, .int .i64 1] w fun e w' => e = .returned (.bool true) ∧ w' = w) := hide (fun w => by have := HWI.out t 0 1 w; rwa [decide_eq_true ht] at this)
            have HWK : Hid (∀ w, Calls Tryd.prog 24 #[.int .i64 k, .int .i64 0, .int .i64 15] w fun e w' => e = .returned (.bool true) ∧ w' = w) := hide (fun w => by have := HWI.out k 0 15 w; rwa [decide_eq_true hk] at this)
            have HWH : Hid (∀ w, Calls Tryd.prog 24 #[.int .i64 h, .int .i64 0, .int .i64 999] w fun e w' => e = .returned (.bool true) ∧ w' = w) := hide (fun w => by have := HWI.out h 0 999 w; rwa [decide_eq_true hh] at this)
            have HWF : Hid (∀ w, Calls Tryd.prog 24 #[.int .i64 f, .int .i64 1, .int .i64 999] w fun e w' => e = .returned (.bool false) ∧ w' = w) := hide (fun w => by have := HWI.out f 1 999 w; rwa [decide_eq_false hf] at this)
            go_enter Tryd.func8, Tryd.ntmps8
            go_upto_region 1 with fail
            clear hw1
            go_wp2_with fail
            refine (HWT.out _).mono ?_
            rintro r w2 ⟨rfl, hw⟩
            subst w2
            go_wp2_with fail
            refine (HWK.out _).mono ?_
            rintro r w2 ⟨rfl, hw⟩
            subst w2
            go_wp2_with fail
            refine (HWH.out _).mono ?_
            rintro r w2 ⟨rfl, hw⟩
            subst w2
            go_wp2_with fail
            refine (HWF.out _).mono ?_
            rintro r w2 ⟨rfl, hw⟩
            subst w2
            go_wp2_with fail
            go_ret
            exact ⟨by rw [HF.out]; rfl, HB1.out⟩
        · have HF := hide (HDF.out (fun H => hh ⟨(HMI.out.1 H).2.2.2.2.1, (HMI.out.1 H).2.2.2.2.2.1⟩))
          clear HDF HDT HMI
          have HWT : Hid (∀ w, Calls Tryd.prog 24 #[.int .i64 t, .int .i64 0, .int .i64 1] w fun e w' => e = .returned (.bool true) ∧ w' = w) := hide (fun w => by have := HWI.out t 0 1 w; rwa [decide_eq_true ht] at this)
          have HWK : Hid (∀ w, Calls Tryd.prog 24 #[.int .i64 k, .int .i64 0, .int .i64 15] w fun e w' => e = .returned (.bool true) ∧ w' = w) := hide (fun w => by have := HWI.out k 0 15 w; rwa [decide_eq_true hk] at this)
          have HWH : Hid (∀ w, Calls Tryd.prog 24 #[.int .i64 h, .int .i64 0, .int .i64 999] w fun e w' => e = .returned (.bool false) ∧ w' = w) := hide (fun w => by have := HWI.out h 0 999 w; rwa [decide_eq_false hh] at this)
          go_enter Tryd.func8, Tryd.ntmps8
          go_upto_region 1 with fail
          clear hw1
          go_wp2_with fail
          refine (HWT.out _).mono ?_
          rintro r w2 ⟨rfl, hw⟩
          subst w2
          go_wp2_with fail
          refine (HWK.out _).mono ?_
          rintro r w2 ⟨rfl, hw⟩
          subst w2
          go_wp2_with fail
          refine (HWH.out _).mono ?_
          rintro r w2 ⟨rfl, hw⟩
          subst w2
          go_wp2_with fail
          go_ret
          exact ⟨by rw [HF.out]; rfl, HB1.out⟩
      · have HF := hide (HDF.out (fun H => hk ⟨(HMI.out.1 H).2.2.1.1, (HMI.out.1 H).2.2.1.2.1⟩))
        clear HDF HDT HMI
        have HWT : Hid (∀ w, Calls Tryd.prog 24 #[.int .i64 t, .int .i64 0, .int .i64 1] w fun e w' => e = .returned (.bool true) ∧ w' = w) := hide (fun w => by have := HWI.out t 0 1 w; rwa [decide_eq_true ht] at this)
        have HWK : Hid (∀ w, Calls Tryd.prog 24 #[.int .i64 k, .int .i64 0, .int .i64 15] w fun e w' => e = .returned (.bool false) ∧ w' = w) := hide (fun w => by have := HWI.out k 0 15 w; rwa [decide_eq_false hk] at this)
        go_enter Tryd.func8, Tryd.ntmps8
        go_upto_region 1 with fail
        clear hw1
        go_wp2_with fail
        refine (HWT.out _).mono ?_
        rintro r w2 ⟨rfl, hw⟩
        subst w2
        go_wp2_with fail
        refine (HWK.out _).mono ?_
        rintro r w2 ⟨rfl, hw⟩
        subst w2
        go_wp2_with fail
        go_ret
        exact ⟨by rw [HF.out]; rfl, HB1.out⟩
    · have HF := hide (HDF.out (fun H => ht (by rcases (HMI.out.1 H).2.1 with h | h <;> omega)))
      clear HDF HDT HMI
      have HWT : Hid (∀ w, Calls Tryd.prog 24 #[.int .i64 t, .int .i64 0, .int .i64 1] w fun e w' => e = .returned (.bool false) ∧ w' = w) := hide (fun w => by have := HWI.out t 0 1 w; rwa [decide_eq_false ht] at this)
      go_enter Tryd.func8, Tryd.ntmps8
      go_upto_region 1 with fail
      clear hw1
      go_wp2_with fail
      refine (HWT.out _).mono ?_
      rintro r w2 ⟨rfl, hw⟩
      subst w2
      go_wp2_with fail
      go_ret
      exact ⟨by rw [HF.out]; rfl, HB1.out⟩
  · have HF := hide (HDF.out (fun H => hn (by have := (HMI.out.1 H).1.1; omega)))
    clear HDF HDT HMI
    have hnb : ((n : Int) != 64) = true := by simp; omega
    go_enter Tryd.func8, Tryd.ntmps8
    go_upto_region 1 with fail
    clear hw1
    go_wp2_with fail
    go_ret
    exact ⟨by rw [HF.out]; rfl, HB1.out⟩

end Go.Proofs.YtdmlamnonbmboaaDoor
