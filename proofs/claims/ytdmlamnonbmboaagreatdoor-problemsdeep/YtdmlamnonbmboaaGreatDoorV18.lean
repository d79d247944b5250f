/-
  Chess: chess.May, walked. No conditions beyond those that each theorem bears.
-/
import Derived.Test.YtdmlamnonbmboaaGreatDoorV16
import Derived.Test.YtdmlamnonbmboaaGreatDoorV17
import Derived.Test.YtdmlamnonbmboaaGreatDoorV11
namespace Go.Proofs.YtdmlamnonbmboaaGreatDoor
open Go.RowKit Go.Shelf

/-- The tables as the program's text lays them. -/
structure Tabs (w : World) : Prop where
  s : TabS w
  d : TzT w
theorem Tabs.mono {w w' : World} (h : Tabs w) (hb : Below w.heap.size w w') : Tabs w' := ⟨h.s.mono hb, h.d.mono hb⟩

theorem MayC.std {Z : List Int} {t k e h f : Int} (H : MayC Z t k e h f) : Std Z := H.1

set_option maxRecDepth 100000 in
set_option maxHeartbeats 16000000 in
theorem May_any (a : Option Addr) (n c : Nat) (Z : List Int) (t k e h f : Int) (he1 : -9223372036854775808 ≤ e) (he2 : e ≤ 9223372036854775807) (w : World) (hz : Rd w a n c Z) (hT : Tabs w) :
    Calls Tryz.prog 15 #[.agg (chA a n c t k e h f)] w fun r w' => r = .returned (.bool (dB (MayC Z t k e h f))) ∧ Below w.heap.size w w' := by
  have HDF : Hid ((¬ MayC Z t k e h f) → dB (MayC Z t k e h f) = false) := hide dB_f
  have HDT : Hid (MayC Z t k e h f → dB (MayC Z t k e h f) = true) := hide dB_t
  have HMI : Hid (MayC Z t k e h f ↔ (Std Z ∧ (t = 0 ∨ t = 1) ∧ Cas Z k ∧ Pas Z t e ∧ 0 ≤ h ∧ h ≤ 999 ∧ 1 ≤ f ∧ f ≤ 999 ∧ chk Z (1 - t).toNat = false)) := hide Iff.rfl
  obtain ⟨rr, hrr⟩ : ∃ rr, dB (MayC Z t k e h f) = rr := ⟨_, rfl⟩
  rw [hrr] at HDF HDT ⊢
  clear hrr
  obtain ⟨w1, hw1⟩ : ∃ w1, w.alloc (.cells (chA a n c t k e h f) 24) = w1 := ⟨_, rfl⟩
  have B1 : Below w.heap.size w w1 := by rw [← hw1]; exact (Below.refl _ w).alloc (Nat.le_refl _) _
  have C1 : Ch w1 w.heap.size a n c t k e h f := by rw [← hw1]; exact Ch.new w a n c t k e h f
  have HB1 := hide B1
  have HCH : Hid (∀ W, Below w1.heap.size w1 W → Ch W w.heap.size a n c t k e h f) := hide (fun W hb => C1.below hb C1.lt)
  have HMS := hide (mayStand_any a n c Z w1 (hz.mono B1))
  have HZW : Hid (∀ W, Below w1.heap.size w1 W → Rd W a n c Z) := hide (fun W hb => (hz.mono B1).mono hb)
  have HTW : Hid (∀ W, Below w1.heap.size w1 W → Tabs W) := hide (fun W hb => (hT.mono B1).mono hb)
  have HIS := hide (isSide_any t)
  have HB0 : Hid (Below w1.heap.size w1 w1) := hide (Below.refl _ _)
  obtain ⟨g0, g1, g2, g3, g4, g5⟩ := C1.cells
  clear hz hT B1 C1
  by_cases hS : Std Z
  · rw [dB_t hS] at HMS
    have hn : n = 64 := by have := (HZW.out w1 HB0.out).len; have := hS.1; omega
    subst hn
    have HMC : Hid (∀ W, Below w1.heap.size w1 W → Calls Tryz.prog 40 #[.agg (chA a 64 c t k e h f)] W fun e w' => e = .returned (.bool (dB (Cas Z k))) ∧ Below W.heap.size W w') := hide (fun W hb => mayCastle_any a c Z t k e h f W (HZW.out W hb))
    by_cases hs : t = 0 ∨ t = 1
    · rw [decide_eq_true hs] at HIS
      have HMP : Hid (∀ W, Below w1.heap.size w1 W → Calls Tryz.prog 41 #[.agg (chA a 64 c t k e h f)] W fun r w' => r = .returned (.bool (dB (Pas Z t e))) ∧ Below W.heap.size W w') := hide (fun W hb => mayPass_any a c Z t hs k e h f he1 he2 W (HZW.out W hb))
      by_cases hc : Cas Z k
      · rw [dB_t hc] at HMC
        by_cases hp : Pas Z t e
        · rw [dB_t hp] at HMP
          by_cases h1 : 0 ≤ h
          · by_cases h2 : h ≤ 999
            · by_cases h3 : 1 ≤ f
              · by_cases h4 : f ≤ 999
                · obtain ⟨tn, htn, htb⟩ : ∃ tn : Nat, t = (tn : Int) ∧ tn ≤ 1 := by
                    rcases hs with rfl | rfl
                    · exact ⟨0, rfl, by omega⟩
                    · exact ⟨1, rfl, by omega⟩
                  have htt : (1 - t).toNat = 1 - tn := by omega
                  have HRR : Hid (rr = !(chk Z (1 - tn))) := hide (by
                    cases hck : chk Z (1 - tn) with
                    | true => exact HDF.out (fun H => by have := (HMI.out.1 H).2.2.2.2.2.2.2.2; rw [htt, hck] at this; exact absurd this (by simp))
                    | false => exact HDT.out (HMI.out.2 ⟨hS, hs, hc, hp, h1, h2, h3, h4, by rw [htt]; exact hck⟩))
                  have HOT := hide (other_any tn htb)
                  have HIC : Hid (∀ W, Below w1.heap.size w1 W → Calls Tryz.prog 42 #[.slice a 64 c, .int .i64 ((1 - tn : Nat) : Int)] W fun e w' => e = .returned (.bool (chk Z (1 - tn))) ∧ Below W.heap.size W w') := hide (fun W hb => inCheck_std a c Z (1 - tn) (by omega) hS W (HZW.out W hb) (HTW.out W hb).s)
                  obtain ⟨ot, hot⟩ : ∃ ot, 1 - tn = ot := ⟨_, rfl⟩
                  rw [hot] at HRR HOT HIC
                  have HTN := hide htn
                  clear HDF HDT HMI htt hot htn
                  go_enter Tryz.func15, Tryz.ntmps15
                  go_upto_region 1 with fail
                  clear hw1
                  go_wp2_with fail
                  refine HMS.out.mono ?_
                  rintro r w2 ⟨rfl, hb2⟩
                  obtain ⟨p0, p1, p2, p3, p4, p5⟩ := (HCH.out w2 hb2).cells
                  have HBX := hide hb2
                  have hch := HCH.out w2 hb2
                  clear hb2 g0 g1 g2 g3 g4 g5
                  go_wp2_with (first | (go_at_call 39; refine (HIS.out _).mono ?_; rintro r w5 ⟨rfl, hw⟩; subst w5) | (refine wpList_load_ch rfl (.tmp 1) rfl w.heap.size rfl hch ?_))
                  refine (HMC.out w2 HBX.out).mono ?_
                  rintro r w3 ⟨rfl, hb3⟩
                  have hbx := HBX.out.trans (hb3.mono HBX.out.size)
                  clear p0 p1 p2 p3 p4 p5 HBX hch
                  obtain ⟨p0, p1, p2, p3, p4, p5⟩ := (HCH.out w3 hbx).cells
                  have HBX := hide hbx
                  have hch := HCH.out w3 hbx
                  clear hb3 hbx
                  go_wp2_with (refine wpList_load_ch rfl (.tmp 1) rfl w.heap.size rfl hch ?_)
                  refine (HMP.out w3 HBX.out).mono ?_
                  rintro r w4 ⟨rfl, hb3⟩
                  have hbx := HBX.out.trans (hb3.mono HBX.out.size)
                  clear p0 p1 p2 p3 p4 p5 HBX hch
                  obtain ⟨p0, p1, p2, p3, p4, p5⟩ := (HCH.out w4 hbx).cells
                  have HBX := hide hbx
                  clear hb3 hbx
                  go_upto_region 5 with fail
                  refine wp_region_held (S := fun W5 => Below w1.heap.size w1 W5) (by kernel_rfl) ?_
                  change wpAnyH _ _ _ _ _ _ _ _ (World.drew _)
                  have SW : Below w1.heap.size w1 w4.drew := HBX.out.drew
                  refine wpAnyH_take (i := 0) (v := .pointer (some ⟨w.heap.size, 0, none⟩)) rfl (by kernel_rfl) (by kernel_rfl) (by kernel_rfl) (fun _ _ _ h => h) (Or.inl ⟨by rfl, ?_⟩) SW ?_
                  · intro W5 hW5
                    go_simp <;> first | done | rfl | (rw [IntKind.wrap_i64]; omega) | omega
                  go_simp
                  refine wpAnyH_take (i := 1) (v := .slice a 64 c) rfl (by kernel_rfl) (by kernel_rfl) (by kernel_rfl) (fun _ _ _ h => h) (Or.inl ⟨by rfl, ?_⟩) SW ?_
                  · intro W5 hW5
                    obtain ⟨x0, x1, -, -, -, -⟩ := (HCH.out W5 hW5).cells
                    go_simp <;> first | done | rfl | (rw [IntKind.wrap_i64]; omega) | omega
                  go_simp
                  refine wpAnyH_take (i := 2) (v := .pointer (some ⟨w.heap.size, 1, none⟩)) rfl (by kernel_rfl) (by kernel_rfl) (by kernel_rfl) (fun _ _ _ h => h) (Or.inl ⟨by rfl, ?_⟩) SW ?_
                  · intro W5 hW5
                    go_simp <;> first | done | rfl | (rw [IntKind.wrap_i64]; omega) | omega
                  go_simp
                  refine wpAnyH_take (i := 3) (v := .int .i64 t) rfl (by kernel_rfl) (by kernel_rfl) (by kernel_rfl) (fun _ _ _ h => h) (Or.inl ⟨by rfl, ?_⟩) SW ?_
                  · intro W5 hW5
                    obtain ⟨x0, x1, -, -, -, -⟩ := (HCH.out W5 hW5).cells
                    go_simp <;> first | done | rfl | (rw [IntKind.wrap_i64]; omega) | omega
                  go_simp
                  rw [HTN.out]
                  refine wpAnyH_ready (rs := [4]) (by kernel_rfl) (by simp) ?_
                  refine AllReadyH.cons rfl (fun K1 hK1 => ?_) AllReadyH.nil
                  go_simp
                  refine (HOT.out _).mono ?_
                  rintro r w5 ⟨rfl, hw⟩
                  subst w5
                  refine hK1.out _ _ SW (fun SW => ?_)
                  clear hK1 K1
                  go_simp
                  refine wpAnyH_ready (rs := [5]) (by kernel_rfl) (by simp) ?_
                  refine AllReadyH.cons rfl (fun K1 hK1 => ?_) AllReadyH.nil
                  go_simp
                  refine (HIC.out _ SW).mono ?_
                  rintro r w6 ⟨rfl, hb6⟩
                  have B6 := SW.trans (hb6.mono SW.size)
                  refine hK1.out _ _ B6 (fun SW => ?_)
                  clear hK1 K1 hb6
                  have HB6 := hide B6
                  clear B6
                  go_simp
                  refine wpAnyH_take (i := 6) (v := .bool (!(chk Z ot))) rfl (by kernel_rfl) (by kernel_rfl) (by kernel_rfl) (fun _ _ _ h => h) (Or.inl ⟨by rfl, ?_⟩) SW ?_
                  · intro W5 hW5
                    go_simp <;> first | done | rfl | (rw [IntKind.wrap_i64]; omega) | omega
                  go_simp
                  refine wpAnyH_take (i := 7) (v := .bool (!(chk Z ot))) rfl (by kernel_rfl) (by kernel_rfl) (by kernel_rfl) (fun _ _ _ h => h) (Or.inl ⟨by rfl, ?_⟩) SW ?_
                  · intro W5 hW5
                    go_simp <;> first | done | rfl
                  go_simp
                  refine wpAnyH_done (by kernel_rfl) ?_ _
                  clear SW
                  go_wp2_with fail
                  go_ret
                  exact ⟨by rw [HRR.out]; rfl, HB1.out.trans (HB6.out.mono HB1.out.size)⟩
                · have HF := hide (HDF.out (fun H => h4 (HMI.out.1 H).2.2.2.2.2.2.2.1))
                  clear HDF HDT HMI
                  go_enter Tryz.func15, Tryz.ntmps15
                  go_upto_region 1 with fail
                  clear hw1
                  go_wp2_with fail
                  refine HMS.out.mono ?_
                  rintro r w2 ⟨rfl, hb2⟩
                  obtain ⟨p0, p1, p2, p3, p4, p5⟩ := (HCH.out w2 hb2).cells
                  have HBX := hide hb2
                  have hch := HCH.out w2 hb2
                  clear hb2 g0 g1 g2 g3 g4 g5
                  go_wp2_with (first | (go_at_call 39; refine (HIS.out _).mono ?_; rintro r w5 ⟨rfl, hw⟩; subst w5) | (refine wpList_load_ch rfl (.tmp 1) rfl w.heap.size rfl hch ?_))
                  refine (HMC.out w2 HBX.out).mono ?_
                  rintro r w3 ⟨rfl, hb3⟩
                  have hbx := HBX.out.trans (hb3.mono HBX.out.size)
                  clear p0 p1 p2 p3 p4 p5 HBX hch
                  obtain ⟨p0, p1, p2, p3, p4, p5⟩ := (HCH.out w3 hbx).cells
                  have HBX := hide hbx
                  have hch := HCH.out w3 hbx
                  clear hb3 hbx
                  go_wp2_with (refine wpList_load_ch rfl (.tmp 1) rfl w.heap.size rfl hch ?_)
                  refine (HMP.out w3 HBX.out).mono ?_
                  rintro r w4 ⟨rfl, hb3⟩
                  have hbx := HBX.out.trans (hb3.mono HBX.out.size)
                  clear p0 p1 p2 p3 p4 p5 HBX hch
                  obtain ⟨p0, p1, p2, p3, p4, p5⟩ := (HCH.out w4 hbx).cells
                  have HBX := hide hbx
                  clear hb3 hbx
                  go_wp2_with fail
                  go_ret
                  exact ⟨by rw [HF.out]; rfl, HB1.out.trans (HBX.out.mono HB1.out.size)⟩
              · have HF := hide (HDF.out (fun H => h3 (HMI.out.1 H).2.2.2.2.2.2.1))
                clear HDF HDT HMI
                go_enter Tryz.func15, Tryz.ntmps15
                go_upto_region 1 with fail
                clear hw1
                go_wp2_with fail
                refine HMS.out.mono ?_
                rintro r w2 ⟨rfl, hb2⟩
                obtain ⟨p0, p1, p2, p3, p4, p5⟩ := (HCH.out w2 hb2).cells
                have HBX := hide hb2
                have hch := HCH.out w2 hb2
                clear hb2 g0 g1 g2 g3 g4 g5
                go_wp2_with (first | (go_at_call 39; refine (HIS.out _).mono ?_; rintro r w5 ⟨rfl, hw⟩; subst w5) | (refine wpList_load_ch rfl (.tmp 1) rfl w.heap.size rfl hch ?_))
                refine (HMC.out w2 HBX.out).mono ?_
                rintro r w3 ⟨rfl, hb3⟩
                have hbx := HBX.out.trans (hb3.mono HBX.out.size)
                clear p0 p1 p2 p3 p4 p5 HBX hch
                obtain ⟨p0, p1, p2, p3, p4, p5⟩ := (HCH.out w3 hbx).cells
                have HBX := hide hbx
                have hch := HCH.out w3 hbx
                clear hb3 hbx
                go_wp2_with (refine wpList_load_ch rfl (.tmp 1) rfl w.heap.size rfl hch ?_)
                refine (HMP.out w3 HBX.out).mono ?_
                rintro r w4 ⟨rfl, hb3⟩
                have hbx := HBX.out.trans (hb3.mono HBX.out.size)
                clear p0 p1 p2 p3 p4 p5 HBX hch
                obtain ⟨p0, p1, p2, p3, p4, p5⟩ := (HCH.out w4 hbx).cells
                have HBX := hide hbx
                clear hb3 hbx
                go_wp2_with fail
                go_ret
                exact ⟨by rw [HF.out]; rfl, HB1.out.trans (HBX.out.mono HB1.out.size)⟩
            · have HF := hide (HDF.out (fun H => h2 (HMI.out.1 H).2.2.2.2.2.1))
              clear HDF HDT HMI
              go_enter Tryz.func15, Tryz.ntmps15
              go_upto_region 1 with fail
              clear hw1
              go_wp2_with fail
              refine HMS.out.mono ?_
              rintro r w2 ⟨rfl, hb2⟩
              obtain ⟨p0, p1, p2, p3, p4, p5⟩ := (HCH.out w2 hb2).cells
              have HBX := hide hb2
              have hch := HCH.out w2 hb2
              clear hb2 g0 g1 g2 g3 g4 g5
              go_wp2_with (first | (go_at_call 39; refine (HIS.out _).mono ?_; rintro r w5 ⟨rfl, hw⟩; subst w5) | (refine wpList_load_ch rfl (.tmp 1) rfl w.heap.size rfl hch ?_))
              refine (HMC.out w2 HBX.out).mono ?_
              rintro r w3 ⟨rfl, hb3⟩
              have hbx := HBX.out.trans (hb3.mono HBX.out.size)
              clear p0 p1 p2 p3 p4 p5 HBX hch
              obtain ⟨p0, p1, p2, p3, p4, p5⟩ := (HCH.out w3 hbx).cells
              have HBX := hide hbx
              have hch := HCH.out w3 hbx
              clear hb3 hbx
              go_wp2_with (refine wpList_load_ch rfl (.tmp 1) rfl w.heap.size rfl hch ?_)
              refine (HMP.out w3 HBX.out).mono ?_
              rintro r w4 ⟨rfl, hb3⟩
              have hbx := HBX.out.trans (hb3.mono HBX.out.size)
              clear p0 p1 p2 p3 p4 p5 HBX hch
              obtain ⟨p0, p1, p2, p3, p4, p5⟩ := (HCH.out w4 hbx).cells
              have HBX := hide hbx
              clear hb3 hbx
              go_wp2_with fail
              go_ret
              exact ⟨by rw [HF.out]; rfl, HB1.out.trans (HBX.out.mono HB1.out.size)⟩
          · have HF := hide (HDF.out (fun H => h1 (HMI.out.1 H).2.2.2.2.1))
            clear HDF HDT HMI
            go_enter Tryz.func15, Tryz.ntmps15
            go_upto_region 1 with fail
            clear hw1
            go_wp2_with fail
            refine HMS.out.mono ?_
            rintro r w2 ⟨rfl, hb2⟩
            obtain ⟨p0, p1, p2, p3, p4, p5⟩ := (HCH.out w2 hb2).cells
            have HBX := hide hb2
            have hch := HCH.out w2 hb2
            clear hb2 g0 g1 g2 g3 g4 g5
            go_wp2_with (first | (go_at_call 39; refine (HIS.out _).mono ?_; rintro r w5 ⟨rfl, hw⟩; subst w5) | (refine wpList_load_ch rfl (.tmp 1) rfl w.heap.size rfl hch ?_))
            refine (HMC.out w2 HBX.out).mono ?_
            rintro r w3 ⟨rfl, hb3⟩
            have hbx := HBX.out.trans (hb3.mono HBX.out.size)
            clear p0 p1 p2 p3 p4 p5 HBX hch
            obtain ⟨p0, p1, p2, p3, p4, p5⟩ := (HCH.out w3 hbx).cells
            have HBX := hide hbx
            have hch := HCH.out w3 hbx
            clear hb3 hbx
            go_wp2_with (refine wpList_load_ch rfl (.tmp 1) rfl w.heap.size rfl hch ?_)
            refine (HMP.out w3 HBX.out).mono ?_
            rintro r w4 ⟨rfl, hb3⟩
            have hbx := HBX.out.trans (hb3.mono HBX.out.size)
            clear p0 p1 p2 p3 p4 p5 HBX hch
            obtain ⟨p0, p1, p2, p3, p4, p5⟩ := (HCH.out w4 hbx).cells
            have HBX := hide hbx
            clear hb3 hbx
            go_wp2_with fail
            go_ret
            exact ⟨by rw [HF.out]; rfl, HB1.out.trans (HBX.out.mono HB1.out.size)⟩
        · rw [dB_f hp] at HMP
          have HF := hide (HDF.out (fun H => hp (HMI.out.1 H).2.2.2.1))
          clear HDF HDT HMI
          go_enter Tryz.func15, Tryz.ntmps15
          go_upto_region 1 with fail
          clear hw1
          go_wp2_with fail
          refine HMS.out.mono ?_
          rintro r w2 ⟨rfl, hb2⟩
          obtain ⟨p0, p1, p2, p3, p4, p5⟩ := (HCH.out w2 hb2).cells
          have HBX := hide hb2
          have hch := HCH.out w2 hb2
          clear hb2 g0 g1 g2 g3 g4 g5
          go_wp2_with (first | (go_at_call 39; refine (HIS.out _).mono ?_; rintro r w5 ⟨rfl, hw⟩; subst w5) | (refine wpList_load_ch rfl (.tmp 1) rfl w.heap.size rfl hch ?_))
          refine (HMC.out w2 HBX.out).mono ?_
          rintro r w3 ⟨rfl, hb3⟩
          have hbx := HBX.out.trans (hb3.mono HBX.out.size)
          clear p0 p1 p2 p3 p4 p5 HBX hch
          obtain ⟨p0, p1, p2, p3, p4, p5⟩ := (HCH.out w3 hbx).cells
          have HBX := hide hbx
          have hch := HCH.out w3 hbx
          clear hb3 hbx
          go_wp2_with (refine wpList_load_ch rfl (.tmp 1) rfl w.heap.size rfl hch ?_)
          refine (HMP.out w3 HBX.out).mono ?_
          rintro r w4 ⟨rfl, hb3⟩
          have hbx := HBX.out.trans (hb3.mono HBX.out.size)
          clear p0 p1 p2 p3 p4 p5 HBX hch
          obtain ⟨p0, p1, p2, p3, p4, p5⟩ := (HCH.out w4 hbx).cells
          have HBX := hide hbx
          clear hb3 hbx
          go_wp2_with fail
          go_ret
          exact ⟨by rw [HF.out]; rfl, HB1.out.trans (HBX.out.mono HB1.out.size)⟩
      · rw [dB_f hc] at HMC
        have HF := hide (HDF.out (fun H => hc (HMI.out.1 H).2.2.1))
        clear HDF HDT HMI
        go_enter Tryz.func15, Tryz.ntmps15
        go_upto_region 1 with fail
        clear hw1
        go_wp2_with fail
        refine HMS.out.mono ?_
        rintro r w2 ⟨rfl, hb2⟩
        obtain ⟨p0, p1, p2, p3, p4, p5⟩ := (HCH.out w2 hb2).cells
        have HBX := hide hb2
        have hch := HCH.out w2 hb2
        clear hb2 g0 g1 g2 g3 g4 g5
        go_wp2_with (first | (go_at_call 39; refine (HIS.out _).mono ?_; rintro r w5 ⟨rfl, hw⟩; subst w5) | (refine wpList_load_ch rfl (.tmp 1) rfl w.heap.size rfl hch ?_))
        refine (HMC.out w2 HBX.out).mono ?_
        rintro r w3 ⟨rfl, hb3⟩
        have hbx := HBX.out.trans (hb3.mono HBX.out.size)
        clear p0 p1 p2 p3 p4 p5 HBX hch
        obtain ⟨p0, p1, p2, p3, p4, p5⟩ := (HCH.out w3 hbx).cells
        have HBX := hide hbx
        have hch := HCH.out w3 hbx
        clear hb3 hbx
        go_wp2_with fail
        go_ret
        exact ⟨by rw [HF.out]; rfl, HB1.out.trans (HBX.out.mono HB1.out.size)⟩
    · rw [decide_eq_false hs] at HIS
      have HF := hide (HDF.out (fun H => hs (HMI.out.1 H).2.1))
      clear HDF HDT HMI
      go_enter Tryz.func15, Tryz.ntmps15
      go_upto_region 1 with fail
      clear hw1
      go_wp2_with fail
      refine HMS.out.mono ?_
      rintro r w2 ⟨rfl, hb2⟩
      obtain ⟨p0, p1, p2, p3, p4, p5⟩ := (HCH.out w2 hb2).cells
      have HBX := hide hb2
      have hch := HCH.out w2 hb2
      clear hb2 g0 g1 g2 g3 g4 g5
      go_wp2_with (go_at_call 39; refine (HIS.out _).mono ?_; rintro r w5 ⟨rfl, hw⟩; subst w5)
      go_ret
      exact ⟨by rw [HF.out]; rfl, HB1.out.trans (HBX.out.mono HB1.out.size)⟩
  · rw [dB_f hS] at HMS
    have HF := hide (HDF.out (fun H => hS (HMI.out.1 H).1))
    clear HDF HDT HMI
    go_enter Tryz.func15, Tryz.ntmps15
    go_upto_region 1 with fail
    clear hw1
    go_wp2_with fail
    refine HMS.out.mono ?_
    rintro r w2 ⟨rfl, hb2⟩
    obtain ⟨p0, p1, p2, p3, p4, p5⟩ := (HCH.out w2 hb2).cells
    have HBX := hide hb2
    have hch := HCH.out w2 hb2
    clear hb2 g0 g1 g2 g3 g4 g5
    go_wp2_with fail
    go_ret
    exact ⟨by rw [HF.out]; rfl, HB1.out.trans (HBX.out.mono HB1.out.size)⟩
end Go.Proofs.YtdmlamnonbmboaaGreatDoor
