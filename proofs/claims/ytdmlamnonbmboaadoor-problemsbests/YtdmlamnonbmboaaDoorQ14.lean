/-
  Chess: chess.May, walked. No conditions beyond those that each theorem bears.
  Chess: lead and tooLittle, walked. No conditions beyond those that each theorem bears.
  Chess: the faces Attackers, Check and Material, walked. No conditions beyond those that each theorem bears.
  Chess: what a piece reaches from its place is what the document says that it attacks. No conditions beyond those that each theorem bears.
-/
import Derived.Test.YtdmlamnonbmboaaDoorQ11
import Derived.Test.YtdmlamnonbmboaaDoorQ12
import Derived.Test.YtdmlamnonbmboaaDoorQ13
import Derived.Test.YtdmlamnonbmboaaDoorQ02
namespace Go.Proofs.YtdmlamnonbmboaaDoor
open Go.RowKit Go.Shelf

/-- The tables as the program's text lays them. -/
structure Tabs (w : World) : Prop where
  s : TabS w
  d : TzT w
theorem Tabs.mono {w w' : World} (h : Tabs w) (hb : Below w.heap.size w w') : Tabs w' := ⟨h.s.mono hb, h.d.mono hb⟩

theorem MayC.std {Z : List Int} {t k e h f : Int} (H : MayC Z t k e h f) : Std Z := H.1

set_option maxRecDepth 100000 in
set_option maxHeartbeats 16000000 in
theorem May_any (a : Option Addr) (n c : Nat) (Z : List Int) (t k e h f : Int) (he1 : -9223372036854775808 ≤ e) (he2 : e ≤ 9223372036854775807) (w : World) (hz : Rd w a n c Z) (hT : Tabs w) :
    Calls Tryd.prog 17 #[.agg (chA a n c t k e h f)] w fun r w' => r = .returned (.bool (dB (MayC Z t k e h f))) ∧ Below w.heap.size w w' := by
  have HDF : Hid ((¬ MayC Z t k e h f) → dB (MayC Z t k e h f) = false) := hide dB_f
  have HDT : Hid (MayC Z t k e h f → dB (MayC Z t k e h f) = true) := hide dB_t
  have HMI : Hid (MayC Z t k e h f ↔ (Std Z ∧ (t = 0 ∨ t = 1) ∧ Cas Z k ∧ Pas Z t e ∧ 0 ≤ h ∧ h ≤ 999 ∧ 1 ≤ f ∧ f ≤ 999 ∧ chk Z (1 - t).toNat = false)) := hide Iff.rfl
  obtain ⟨rr, hrr⟩ : ∃ rr, dB (MayC Z t k e h f) = rr := ⟨_, rfl⟩
  rw [hrr] at HDF HDT ⊢
  clear hrr
  obtain ⟨w1, hw1⟩ : ∃ w1, w.alloc (.cells (chA a n c t k e h f) 24) = w1 := ⟨_, rfl⟩
  have B1 : Below w.heap.size w w1 := by rw [← hw1]; exact (Below.refl _ w).alloc (Nat.le_refl _) _
  have C1 : Ch w1 w.heap.size a n c t k e h f := by rw [← hw1]; exact Ch.new w a n c t k e h f
  have HB1 := hide B1
  have HCH : Hid (∀ W, Below w1.heap.size w1 W → Ch W w.heap.size a n c t k e h f) := hide (fun W hb => C1.below hb C1.lt)
  have HMS := hide (mayStand_any a n c Z w1 (hz.mono B1))
  have HZW : Hid (∀ W, Below w1.heap.size w1 W → Rd W a n c Z) := hide (fun W hb => (hz.mono B1).mono hb)
  have HTW : Hid (∀ W, Below w1.heap.size w1 W → Tabs W) := hide (fun W hb => (hT.mono B1).mono hb)
  have HIS := hide (isSide_any t)
  have HB0 : Hid (Below w1.heap.size w1 w1) := hide (Below.refl _ _)
  obtain ⟨g0, g1, g2, g3, g4, g5⟩ := C1.cells
  clear hz hT B1 C1
  by_cases hS : Std Z
  · rw [dB_t hS] at HMS
    have hn : n = 64 := by have := (HZW.out w1 HB0.out).len; have := hS.1; omega
    subst hn
    have HMC : Hid (∀ W, Below w1.heap.size w1 W → Calls Tryd.prog 41 #[.agg (chA a 64 c t k e h f)] W fun e w' => e = .returned (.bool (dB (Cas Z k))) ∧ Below W.heap.size W w') := hide (fun W hb => mayCastle_any a c Z t k e h f W (HZW.out W hb))
    by_cases hs : t = 0 ∨ t = 1
    · rw [decide_eq_true hs] at HIS
      have HMP : Hid (∀ W, Below w1.heap.size w1 W → Calls Tryd.prog 42 #[.agg (chA a 64 c t k e h f)] W fun r w' => r = .returned (.bool (dB (Pas Z t e))) ∧ Below W.heap.size W w') := hide (fun W hb => mayPass_any a c Z t hs k e h f he1 he2 W (HZW.out W hb))
      by_cases hc : Cas Z k
      · rw [dB_t hc] at HMC
        by_cases hp : Pas Z t e
        · rw [dB_t hp] at HMP
          by_cases h1 : 0 ≤ h
          · by_cases h2 : h ≤ 999
            · by_cases h3 : 1 ≤ f
              · by_cases h4 : f ≤ 999
                · obtain ⟨tn, htn, htb⟩ : ∃ tn : Nat, t = (tn : Int) ∧ tn ≤ 1 := by
                    rcases hs with rfl | rfl
                    · exact ⟨0, rfl, by omega⟩
                    · exact ⟨1, rfl, by omega⟩
                  have htt : (1 - t).toNat = 1 - tn := by omega
                  have HRR : Hid (rr = !(chk Z (1 - tn))) := hide (by
                    cases hck : chk Z (1 - tn) with
                    | true => exact HDF.out (fun H => by have := (HMI.out.1 H).2.2.2.2.2.2.2.2; rw [htt, hck] at this; exact absurd this (by simp))
                    | false => exact HDT.out (HMI.out.2 ⟨hS, hs, hc, hp, h1, h2, h3, h4, by rw [htt]; exact hck⟩))
                  have HOT := hide (other_any tn htb)
                  have HIC : Hid (∀ W, Below w1.heap.size w1 W → Calls Tryd.prog 43 #[.slice a 64 c, .int .i64 ((1 - tn : Nat) : Int)] W fun e w' => e = .returned (.bool (chk Z (1 - tn))) ∧ Below W.heap.size W w') := hide (fun W hb => inCheck_std a c Z (1 - tn) (by omega) hS W (HZW.out W hb) (HTW.out W hb).s)
                  obtain ⟨ot, hot⟩ : ∃ ot, 1 - tn = ot := ⟨_, rfl⟩
                  rw [hot] at HRR HOT HIC
                  have HTN := hide htn
                  clear HDF HDT HMI htt hot htn
                  go_enter Tryd.func17, Tryd.ntmps17
                  go_upto_region 1 with fail
                  clear hw1
                  go_wp2_with fail
                  refine HMS.out.mono ?_
                  rintro r w2 ⟨rfl, hb2⟩
                  obtain ⟨p0, p1, p2, p3, p4, p5⟩ := (HCH.out w2 hb2).cells
                  have HBX := hide hb2
                  have hch := HCH.out w2 hb2
                  clear hb2 g0 g1 g2 g3 g4 g5
                  go_wp2_with (first | (go_at_call 22; refine (HIS.out _).mono ?_; rintro r w5 ⟨rfl, hw⟩; subst w5) | (refine wpList_load_ch rfl (.tmp 1) rfl w.heap.size rfl hch ?_))
                  refine (HMC.out w2 HBX.out).mono ?_
                  rintro r w3 ⟨rfl, hb3⟩
                  have hbx := HBX.out.trans (hb3.mono HBX.out.size)
                  clear p0 p1 p2 p3 p4 p5 HBX hch
                  obtain ⟨p0, p1, p2, p3, p4, p5⟩ := (HCH.out w3 hbx).cells
                  have HBX := hide hbx
                  have hch := HCH.out w3 hbx
                  clear hb3 hbx
                  go_wp2_with (refine wpList_load_ch rfl (.tmp 1) rfl w.heap.size rfl hch ?_)
                  refine (HMP.out w3 HBX.out).mono ?_
                  rintro r w4 ⟨rfl, hb3⟩
                  have hbx := HBX.out.trans (hb3.mono HBX.out.size)
                  clear p0 p1 p2 p3 p4 p5 HBX hch
                  obtain ⟨p0, p1, p2, p3, p4, p5⟩ := (HCH.out w4 hbx).cells
                  have HBX := hide hbx
                  clear hb3 hbx
                  go_upto_region 5 with fail
                  refine wp_region_held (S := fun W5 => Below w1.heap.size w1 W5) (by kernel_rfl) ?_
                  change wpAnyH _ _ _ _ _ _ _ _ (World.drew _)
                  have SW : Below w1.heap.size w1 w4.drew := HBX.out.drew
                  refine wpAnyH_take (i := 0) (v := .pointer (some ⟨w.heap.size, 0, none⟩)) rfl (by kernel_rfl) (by kernel_rfl) (by kernel_rfl) (fun _ _ _ h => h) (Or.inl ⟨by rfl, ?_⟩) SW ?_
                  · intro W5 hW5
                    go_simp <;> first | done | rfl | (rw [IntKind.wrap_i64]; omega) | omega
                  go_simp
                  refine wpAnyH_take (i := 1) (v := .slice a 64 c) rfl (by kernel_rfl) (by kernel_rfl) (by kernel_rfl) (fun _ _ _ h => h) (Or.inl ⟨by rfl, ?_⟩) SW ?_
                  · intro W5 hW5
                    obtain ⟨x0, x1, -, -, -, -⟩ := (HCH.out W5 hW5).cells
                    go_simp <;> first | done | rfl | (rw [IntKind.wrap_i64]; omega) | omega
                  go_simp
                  refine wpAnyH_take (i := 2) (v := .pointer (some ⟨w.heap.size, 1, none⟩)) rfl (by kernel_rfl) (by kernel_rfl) (by kernel_rfl) (fun _ _ _ h => h) (Or.inl ⟨by rfl, ?_⟩) SW ?_
                  · intro W5 hW5
                    go_simp <;> first | done | rfl | (rw [IntKind.wrap_i64]; omega) | omega
                  go_simp
                  refine wpAnyH_take (i := 3) (v := .int .i64 t) rfl (by kernel_rfl) (by kernel_rfl) (by kernel_rfl) (fun _ _ _ h => h) (Or.inl ⟨by rfl, ?_⟩) SW ?_
                  · intro W5 hW5
                    obtain ⟨x0, x1, -, -, -, -⟩ := (HCH.out W5 hW5).cells
                    go_simp <;> first | done | rfl | (rw [IntKind.wrap_i64]; omega) | omega
                  go_simp
                  rw [HTN.out]
                  refine wpAnyH_ready (rs := [4]) (by kernel_rfl) (by simp) ?_
                  refine AllReadyH.cons rfl (fun K1 hK1 => ?_) AllReadyH.nil
                  go_simp
                  refine (HOT.out _).mono ?_
                  rintro r w5 ⟨rfl, hw⟩
                  subst w5
                  refine hK1.out _ _ SW (fun SW => ?_)
                  clear hK1 K1
                  go_simp
                  refine wpAnyH_ready (rs := [5]) (by kernel_rfl) (by simp) ?_
                  refine AllReadyH.cons rfl (fun K1 hK1 => ?_) AllReadyH.nil
                  go_simp
                  refine (HIC.out _ SW).mono ?_
                  rintro r w6 ⟨rfl, hb6⟩
                  have B6 := SW.trans (hb6.mono SW.size)
                  refine hK1.out _ _ B6 (fun SW => ?_)
                  clear hK1 K1 hb6
                  have HB6 := hide B6
                  clear B6
                  go_simp
                  refine wpAnyH_take (i := 6) (v := .bool (!(chk Z ot))) rfl (by kernel_rfl) (by kernel_rfl) (by kernel_rfl) (fun _ _ _ h => h) (Or.inl ⟨by rfl, ?_⟩) SW ?_
                  · intro W5 hW5
                    go_simp <;> first | done | rfl | (rw [IntKind.wrap_i64]; omega) | omega
                  go_simp
                  refine wpAnyH_take (i := 7) (v := .bool (!(chk Z ot))) rfl (by kernel_rfl) (by kernel_rfl) (by kernel_rfl) (fun _ _ _ h => h) (Or.inl ⟨by rfl, ?_⟩) SW ?_
                  · intro W5 hW5
                    go_simp <;> first | done | rfl
                  go_simp
                  refine wpAnyH_done (by kernel_rfl) ?_ _
                  clear SW
                  go_wp2_with fail
                  go_ret
                  exact ⟨by rw [HRR.out]; rfl, HB1.out.trans (HB6.out.mono HB1.out.size)⟩
                · have HF := hide (HDF.out (fun H => h4 (HMI.out.1 H).2.2.2.2.2.2.2.1))
                  clear HDF HDT HMI
                  go_enter Tryd.func17, Tryd.ntmps17
                  go_upto_region 1 with fail
                  clear hw1
                  go_wp2_with fail
                  refine HMS.out.mono ?_
                  rintro r w2 ⟨rfl, hb2⟩
                  obtain ⟨p0, p1, p2, p3, p4, p5⟩ := (HCH.out w2 hb2).cells
                  have HBX := hide hb2
                  have hch := HCH.out w2 hb2
                  clear hb2 g0 g1 g2 g3 g4 g5
                  go_wp2_with (first | (go_at_call 22; refine (HIS.out _).mono ?_; rintro r w5 ⟨rfl, hw⟩; subst w5) | (refine wpList_load_ch rfl (.tmp 1) rfl w.heap.size rfl hch ?_))
                  refine (HMC.out w2 HBX.out).mono ?_
                  rintro r w3 ⟨rfl, hb3⟩
                  have hbx := HBX.out.trans (hb3.mono HBX.out.size)
                  clear p0 p1 p2 p3 p4 p5 HBX hch
                  obtain ⟨p0, p1, p2, p3, p4, p5⟩ := (HCH.out w3 hbx).cells
                  have HBX := hide hbx
                  have hch := HCH.out w3 hbx
                  clear hb3 hbx
                  go_wp2_with (refine wpList_load_ch rfl (.tmp 1) rfl w.heap.size rfl hch ?_)
                  refine (HMP.out w3 HBX.out).mono ?_
                  rintro r w4 ⟨rfl, hb3⟩
                  have hbx := HBX.out.trans (hb3.mono HBX.out.size)
                  clear p0 p1 p2 p3 p4 p5 HBX hch
                  obtain ⟨p0, p1, p2, p3, p4, p5⟩ := (HCH.out w4 hbx).cells
                  have HBX := hide hbx
                  clear hb3 hbx
                  go_wp2_with fail
                  go_ret
                  exact ⟨by rw [HF.out]; rfl, HB1.out.trans (HBX.out.mono HB1.out.size)⟩
              · have HF := hide (HDF.out (fun H => h3 (HMI.out.1 H).2.2.2.2.2.2.1))
                clear HDF HDT HMI
                go_enter Tryd.func17, Tryd.ntmps17
                go_upto_region 1 with fail
                clear hw1
                go_wp2_with fail
                refine HMS.out.mono ?_
                rintro r w2 ⟨rfl, hb2⟩
                obtain ⟨p0, p1, p2, p3, p4, p5⟩ := (HCH.out w2 hb2).cells
                have HBX := hide hb2
                have hch := HCH.out w2 hb2
                clear hb2 g0 g1 g2 g3 g4 g5
                go_wp2_with (first | (go_at_call 22; refine (HIS.out _).mono ?_; rintro r w5 ⟨rfl, hw⟩; subst w5) | (refine wpList_load_ch rfl (.tmp 1) rfl w.heap.size rfl hch ?_))
                refine (HMC.out w2 HBX.out).mono ?_
                rintro r w3 ⟨rfl, hb3⟩
                have hbx := HBX.out.trans (hb3.mono HBX.out.size)
                clear p0 p1 p2 p3 p4 p5 HBX hch
                obtain ⟨p0, p1, p2, p3, p4, p5⟩ := (HCH.out w3 hbx).cells
                have HBX := hide hbx
                have hch := HCH.out w3 hbx
                clear hb3 hbx
                go_wp2_with (refine wpList_load_ch rfl (.tmp 1) rfl w.heap.size rfl hch ?_)
                refine (HMP.out w3 HBX.out).mono ?_
                rintro r w4 ⟨rfl, hb3⟩
                have hbx := HBX.out.trans (hb3.mono HBX.out.size)
                clear p0 p1 p2 p3 p4 p5 HBX hch
                obtain ⟨p0, p1, p2, p3, p4, p5⟩ := (HCH.out w4 hbx).cells
                have HBX := hide hbx
                clear hb3 hbx
                go_wp2_with fail
                go_ret
                exact ⟨by rw [HF.out]; rfl, HB1.out.trans (HBX.out.mono HB1.out.size)⟩
            · have HF := hide (HDF.out (fun H => h2 (HMI.out.1 H).2.2.2.2.2.1))
              clear HDF HDT HMI
              go_enter Tryd.func17, Tryd.ntmps17
              go_upto_region 1 with fail
              clear hw1
              go_wp2_with fail
              refine HMS.out.mono ?_
              rintro r w2 ⟨rfl, hb2⟩
              obtain ⟨p0, p1, p2, p3, p4, p5⟩ := (HCH.out w2 hb2).cells
              have HBX := hide hb2
              have hch := HCH.out w2 hb2
              clear hb2 g0 g1 g2 g3 g4 g5
              go_wp2_with (first | (go_at_call 22; refine (HIS.out _).mono ?_; rintro r w5 ⟨rfl, hw⟩; subst w5) | (refine wpList_load_ch rfl (.tmp 1) rfl w.heap.size rfl hch ?_))
              refine (HMC.out w2 HBX.out).mono ?_
              rintro r w3 ⟨rfl, hb3⟩
              have hbx := HBX.out.trans (hb3.mono HBX.out.size)
              clear p0 p1 p2 p3 p4 p5 HBX hch
              obtain ⟨p0, p1, p2, p3, p4, p5⟩ := (HCH.out w3 hbx).cells
              have HBX := hide hbx
              have hch := HCH.out w3 hbx
              clear hb3 hbx
              go_wp2_with (refine wpList_load_ch rfl (.tmp 1) rfl w.heap.size rfl hch ?_)
              refine (HMP.out w3 HBX.out).mono ?_
              rintro r w4 ⟨rfl, hb3⟩
              have hbx := HBX.out.trans (hb3.mono HBX.out.size)
              clear p0 p1 p2 p3 p4 p5 HBX hch
              obtain ⟨p0, p1, p2, p3, p4, p5⟩ := (HCH.out w4 hbx).cells
              have HBX := hide hbx
              clear hb3 hbx
              go_wp2_with fail
              go_ret
              exact ⟨by rw [HF.out]; rfl, HB1.out.trans (HBX.out.mono HB1.out.size)⟩
          · have HF := hide (HDF.out (fun H => h1 (HMI.out.1 H).2.2.2.2.1))
            clear HDF HDT HMI
            go_enter Tryd.func17, Tryd.ntmps17
            go_upto_region 1 with fail
            clear hw1
            go_wp2_with fail
            refine HMS.out.mono ?_
            rintro r w2 ⟨rfl, hb2⟩
            obtain ⟨p0, p1, p2, p3, p4, p5⟩ := (HCH.out w2 hb2).cells
            have HBX := hide hb2
            have hch := HCH.out w2 hb2
            clear hb2 g0 g1 g2 g3 g4 g5
            go_wp2_with (first | (go_at_call 22; refine (HIS.out _).mono ?_; rintro r w5 ⟨rfl, hw⟩; subst w5) | (refine wpList_load_ch rfl (.tmp 1) rfl w.heap.size rfl hch ?_))
            refine (HMC.out w2 HBX.out).mono ?_
            rintro r w3 ⟨rfl, hb3⟩
            have hbx := HBX.out.trans (hb3.mono HBX.out.size)
            clear p0 p1 p2 p3 p4 p5 HBX hch
            obtain ⟨p0, p1, p2, p3, p4, p5⟩ := (HCH.out w3 hbx).cells
            have HBX := hide hbx
            have hch := HCH.out w3 hbx
            clear hb3 hbx
            go_wp2_with (refine wpList_load_ch rfl (.tmp 1) rfl w.heap.size rfl hch ?_)
            refine (HMP.out w3 HBX.out).mono ?_
            rintro r w4 ⟨rfl, hb3⟩
            have hbx := HBX.out.trans (hb3.mono HBX.out.size)
            clear p0 p1 p2 p3 p4 p5 HBX hch
            obtain ⟨p0, p1, p2, p3, p4, p5⟩ := (HCH.out w4 hbx).cells
            have HBX := hide hbx
            clear hb3 hbx
            go_wp2_with fail
            go_ret
            exact ⟨by rw [HF.out]; rfl, HB1.out.trans (HBX.out.mono HB1.out.size)⟩
        · rw [dB_f hp] at HMP
          have HF := hide (HDF.out (fun H => hp (HMI.out.1 H).2.2.2.1))
          clear HDF HDT HMI
          go_enter Tryd.func17, Tryd.ntmps17
          go_upto_region 1 with fail
          clear hw1
          go_wp2_with fail
          refine HMS.out.mono ?_
          rintro r w2 ⟨rfl, hb2⟩
          obtain ⟨p0, p1, p2, p3, p4, p5⟩ := (HCH.out w2 hb2).cells
          have HBX := hide hb2
          have hch := HCH.out w2 hb2
          clear hb2 g0 g1 g2 g3 g4 g5
          go_wp2_with (first | (go_at_call 22; refine (HIS.out _).mono ?_; rintro r w5 ⟨rfl, hw⟩; subst w5) | (refine wpList_load_ch rfl (.tmp 1) rfl w.heap.size rfl hch ?_))
          refine (HMC.out w2 HBX.out).mono ?_
          rintro r w3 ⟨rfl, hb3⟩
          have hbx := HBX.out.trans (hb3.mono HBX.out.size)
          clear p0 p1 p2 p3 p4 p5 HBX hch
          obtain ⟨p0, p1, p2, p3, p4, p5⟩ := (HCH.out w3 hbx).cells
          have HBX := hide hbx
          have hch := HCH.out w3 hbx
          clear hb3 hbx
          go_wp2_with (refine wpList_load_ch rfl (.tmp 1) rfl w.heap.size rfl hch ?_)
          refine (HMP.out w3 HBX.out).mono ?_
          rintro r w4 ⟨rfl, hb3⟩
          have hbx := HBX.out.trans (hb3.mono HBX.out.size)
          clear p0 p1 p2 p3 p4 p5 HBX hch
          obtain ⟨p0, p1, p2, p3, p4, p5⟩ := (HCH.out w4 hbx).cells
          have HBX := hide hbx
          clear hb3 hbx
          go_wp2_with fail
          go_ret
          exact ⟨by rw [HF.out]; rfl, HB1.out.trans (HBX.out.mono HB1.out.size)⟩
      · rw [dB_f hc] at HMC
        have HF := hide (HDF.out (fun H => hc (HMI.out.1 H).2.2.1))
        clear HDF HDT HMI
        go_enter Tryd.func17, Tryd.ntmps17
        go_upto_region 1 with fail
        clear hw1
        go_wp2_with fail
        refine HMS.out.mono ?_
        rintro r w2 ⟨rfl, hb2⟩
        obtain ⟨p0, p1, p2, p3, p4, p5⟩ := (HCH.out w2 hb2).cells
        have HBX := hide hb2
        have hch := HCH.out w2 hb2
        clear hb2 g0 g1 g2 g3 g4 g5
        go_wp2_with (first | (go_at_call 22; refine (HIS.out _).mono ?_; rintro r w5 ⟨rfl, hw⟩; subst w5) | (refine wpList_load_ch rfl (.tmp 1) rfl w.heap.size rfl hch ?_))
        refine (HMC.out w2 HBX.out).mono ?_
        rintro r w3 ⟨rfl, hb3⟩
        have hbx := HBX.out.trans (hb3.mono HBX.out.size)
        clear p0 p1 p2 p3 p4 p5 HBX hch
        obtain ⟨p0, p1, p2, p3, p4, p5⟩ := (HCH.out w3 hbx).cells
        have HBX := hide hbx
        have hch := HCH.out w3 hbx
        clear hb3 hbx
        go_wp2_with fail
        go_ret
        exact ⟨by rw [HF.out]; rfl, HB1.out.trans (HBX.out.mono HB1.out.size)⟩
    · rw [decide_eq_false hs] at HIS
      have HF := hide (HDF.out (fun H => hs (HMI.out.1 H).2.1))
      clear HDF HDT HMI
      go_enter Tryd.func17, Tryd.ntmps17
      go_upto_region 1 with fail
      clear hw1
      go_wp2_with fail
      refine HMS.out.mono ?_
      rintro r w2 ⟨rfl, hb2⟩
      obtain ⟨p0, p1, p2, p3, p4, p5⟩ := (HCH.out w2 hb2).cells
      have HBX := hide hb2
      have hch := HCH.out w2 hb2
      clear hb2 g0 g1 g2 g3 g4 g5
      go_wp2_with (go_at_call 22; refine (HIS.out _).mono ?_; rintro r w5 ⟨rfl, hw⟩; subst w5)
      go_ret
      exact ⟨by rw [HF.out]; rfl, HB1.out.trans (HBX.out.mono HB1.out.size)⟩
  · rw [dB_f hS] at HMS
    have HF := hide (HDF.out (fun H => hS (HMI.out.1 H).1))
    clear HDF HDT HMI
    go_enter Tryd.func17, Tryd.ntmps17
    go_upto_region 1 with fail
    clear hw1
    go_wp2_with fail
    refine HMS.out.mono ?_
    rintro r w2 ⟨rfl, hb2⟩
    obtain ⟨p0, p1, p2, p3, p4, p5⟩ := (HCH.out w2 hb2).cells
    have HBX := hide hb2
    have hch := HCH.out w2 hb2
    clear hb2 g0 g1 g2 g3 g4 g5
    go_wp2_with fail
    go_ret
    exact ⟨by rw [HF.out]; rfl, HB1.out.trans (HBX.out.mono HB1.out.size)⟩
end Go.Proofs.YtdmlamnonbmboaaDoor

namespace Go.Proofs.YtdmlamnonbmboaaDoor
open Go.RowKit Go.Shelf

attribute [local irreducible] wo wv mS kc shc kdL shL

set_option maxRecDepth 100000 in
set_option maxHeartbeats 4000000 in
theorem lead_any (a : Option Addr) (c : Nat) (Z : List Int) (hz : Pz Z) (w : World) (h : Rd w a 64 c Z) (hW : TabW w) :
    Calls Tryd.prog 62 #[.slice a 64 c] w fun e w' => e = .returned (.int .i64 (mS Z 64)) ∧ w' = w := by
  have hcm := h.max
  unfold maxLen at hcm
  have hcc := h.cap
  obtain ⟨bk, off, rfl, hc⟩ := h.cells (by omega)
  have HC : Hid (∀ i, i < 64 → w.cell? ⟨bk, off + i, none⟩ = some (.int .i64 (zg Z i))) := hide hc
  have HW := hide hW
  have HBD := hide (mS_bd hz)
  have HZB := hide hz.2
  have HSU : Hid (∀ n, mS Z (n + 1) = mS Z n + wv (zg Z n)) := hide (mS_succ Z)
  have HZE : Hid (mS Z 0 = 0) := hide (mS_zero Z)
  clear h hc hW hz
  go_enter Tryd.func62, Tryd.ntmps62
  go_wp2_with fail
  go_loopw [3, 8] (fun u v wr => ∃ i : Nat, v = .int .i64 i ∧ i ≤ 64 ∧ u = .int .i64 (mS Z i) ∧ w = wr) (fun _ v _ => 64 - (intOf v).toNat)
  case atStart => exact ⟨0, rfl, by omega, by rw [HZE.out], rfl⟩
  case round =>
    obtain ⟨i, rfl, hi, rfl, rfl⟩ := hrel
    by_cases hlt : i < 64
    · have hlt' : (i : Int) < 64 := by omega
      have cz := HC.out i hlt
      have hzb := HZB.out i
      have hbd := HBD.out i
      have HS := hide (HSU.out i)
      have HWP := hide (fun h => wv_pos (x := zg Z i) h)
      have HWN := hide (fun h => wv_neg (x := zg Z i) h)
      generalize mS Z i = m at *
      generalize zg Z i = z at *
      obtain ⟨zn, hzn⟩ : ∃ zn, z.natAbs = zn := ⟨_, rfl⟩
      have hw7 := HW.out zn (by omega)
      have hwb := wo_bd (j := zn) (by omega)
      rw [hzn] at HWP HWN
      generalize wo zn = wz at *
      by_cases hp : 0 < z
      · have hze : z = (zn : Int) := by omega
        have HE : Hid (mS Z (i + 1) = m + wz) := hide (by rw [HS.out, HWP.out hp])
        subst hze
        clear HS HWP HWN hzn
        have hp' : (0 : Int) < (zn : Int) := hp
        go_wp2_with fail
        exact ⟨⟨i + 1, by go_num, by omega, by rw [HE.out], trivial⟩, by simp [intOf]; omega⟩
      · have hze : -z = (zn : Int) := by omega
        have HE : Hid (mS Z (i + 1) = m - wz) := hide (by rw [HS.out, HWN.out hp]; omega)
        clear HS HWP HWN hzn
        go_wp2_with fail
        exact ⟨⟨i + 1, by go_num, by omega, by rw [HE.out], trivial⟩, by simp [intOf]; omega⟩
    · obtain rfl : i = 64 := by omega
      go_wp2_with fail
      go_ret
      exact ⟨rfl, rfl⟩

end Go.Proofs.YtdmlamnonbmboaaDoor

namespace Go.Proofs.YtdmlamnonbmboaaDoor
open Go.RowKit Go.Shelf

set_option maxHeartbeats 4000000 in
theorem ChessOf_any (a : Option Addr) (n c : Nat) (Z : List Int) (t k e h f : Int) (w : World) (hz : Rd w a n c Z) (hr : n * 8 ≤ 140737488351232) :
    Calls Tryd.prog 6 #[.agg (chA a n c t k e h f)] w fun r w' => ∃ a' c', r = .returned (.agg (chA a' n c' t k e h f)) ∧ Rd w' a' n c' Z ∧ Below w.heap.size w w' := by
  go_enter Tryd.func6, Tryd.ntmps6
  go_upto_region 1 with fail
  obtain ⟨w1, hw1⟩ : ∃ w1, (w.alloc (Obj.cells (chA a n c t k e h f) 24)).alloc (Obj.cells #[.slice none 0 0, .int .i64 0, .int .i64 0, .int .i64 0, .int .i64 0, .int .i64 0] 24) = w1 := ⟨_, rfl⟩
  rw [hw1]
  have K1 : Ch w1 w.heap.size a n c t k e h f := by rw [← hw1]; exact (Ch.new w a n c t k e h f).old _
  have K2 : Ch w1 (w.heap.size + 1) none 0 0 0 0 0 0 0 := by
    rw [← hw1]
    have := Ch.new (w.alloc (Obj.cells (chA a n c t k e h f) 24)) none 0 0 0 0 0 0 0
    rw [World.size_alloc] at this
    exact this
  have hs1 : w1.heap.size = w.heap.size + 1 + 1 := by rw [← hw1]; simp
  have B1 : Below w.heap.size w w1 := by rw [← hw1]; exact ((Below.refl _ w).alloc (Nat.le_refl _) _).alloc (by simp) _
  clear hw1
  have HS := hide hs1
  have CALL := hide (ints_own a n c Z w1 (hz.mono B1) hr)
  rw [hs1] at CALL
  clear hs1
  obtain ⟨g0, -⟩ := K1.cells
  go_wp2_with fail
  refine CALL.out.mono ?_
  rintro r w2 ⟨a', c', rfl, hO, hb⟩
  have K12 := K1.below (C := w.heap.size + 1 + 1) hb (by omega)
  have K22 := K2.below (C := w.heap.size + 1 + 1) hb (by omega)
  have B2 := B1.trans (hb.mono (by omega))
  clear K1 K2 B1 g0 CALL hb
  obtain ⟨g0, -⟩ := K12.cells
  have f0 := K12.frozen 0
  have HO := hide hO
  clear hO
  go_upto_region 2 with fail
  have K13 := K12.setP a' n c'
  have K23 := K22.other (show w.heap.size + 1 ≠ w.heap.size by omega) 0 (.slice a' n c')
  have B3 := B2.setCell (p := ⟨w.heap.size, 0, none⟩) (Nat.le_refl _) (.slice a' n c')
  have O3 := hide (own_keeps HO.out (Keeps.set1 w2 w.heap.size 0 (.slice a' n c')) (by omega))
  generalize w2.setCell ⟨w.heap.size, 0, none⟩ (.slice a' n c') = w3 at *
  clear K12 K22 B2 g0 f0 HO
  go_wp2_with (first
    | refine wpList_load_ch rfl (.tmp 1) rfl w.heap.size rfl K13 ?_
    | (refine wpList_store_ch rfl (.tmp 2) (.tmp 7) rfl (w.heap.size + 1) rfl rfl K23 ?_; intro w6 k6 kk6))
  refine bodyPost_ret (results_ch rfl _ _ (w.heap.size + 1) rfl k6) rfl ⟨a', c', rfl, ?_, ?_⟩
  · exact Rd.of_own (own_keeps O3.out kk6 (by omega))
  · exact B3.trans ((kk6.mono (Y := fun k => w.heap.size ≤ k) (fun k _ e => by omega)).below (by have := B3.size; omega) (fun k hk e => by omega))

end Go.Proofs.YtdmlamnonbmboaaDoor

namespace Go.Proofs.YtdmlamnonbmboaaDoor
set_option maxRecDepth 20000

theorem tab_F : ((List.range 64).all fun f => (List.range 8).all fun i => (List.range (rl f i)).all fun j => decide ((R f i).take j = btw f (rP f i j)) && !(decide (dX f (rP f i j) = 0) && decide (dY f (rP f i j) = 0)) && (if Nat.blt i 4 then strai f (rP f i j) else slant f (rP f i j))) = true := by decide +kernel

theorem tab_G : ((List.range 64).all fun f => (List.range 64).all fun t => (Nat.beq f t) || ((!(strai f t) || (List.range 4).any fun i => (R f i).elem t) && (!(slant f t) || (List.range 4).any fun i => (R f (4 + i)).elem t))) = true := by decide +kernel

theorem tab_H : ([1, -1, 2, -2, 6, -6].all fun x => (List.range 64).all fun t => (List.range 64).all fun f => near x f t == (((ixs x).flatMap fun i => (R f i).take 1).elem t)) = true := by decide +kernel

theorem near_fw {x : Int} (hx : x = 1 ∨ x = -1 ∨ x = 2 ∨ x = -2 ∨ x = 6 ∨ x = -6) {f t : Nat} (hf : f < 64) (ht : t < 64) :
    near x f t = (((ixs x).flatMap fun i => (R f i).take 1).elem t) := by
  have h := List.all_eq_true.1 tab_H x (by simp; omega)
  have h2 := all64 (all64 h ht) hf
  exact beq_iff_eq.1 h2

theorem far_fw {Z : List Int} {i t f : Nat} (hi : i < 8) (hf : f < 64) (h : t ∈ vis Z true (R f i)) :
    (∀ a ∈ btw f t, zg Z a = 0) ∧ ¬ (dX f t = 0 ∧ dY f t = 0) ∧ (i < 4 → strai f t = true) ∧ (4 ≤ i → slant f t = true) := by
  obtain ⟨j, hj, ha⟩ := (vis_iff Z _ t).1 h
  have hjl : j < rl f i := by
    have := (List.getElem?_eq_some_iff.1 hj).1
    rwa [R_len] at this
  rw [R_get hjl] at hj
  have hj' : rP f i j = t := by simpa using hj
  have hA := allN (allN (all64 tab_F hf) hi) hjl
  simp only [Bool.and_eq_true, decide_eq_true_eq] at hA
  rw [hj'] at hA
  obtain ⟨⟨h1, h2⟩, h3⟩ := hA
  refine ⟨fun a h => ha a ?_, ?_, ?_, ?_⟩
  · rw [h1]; exact h
  · rintro ⟨e1, e2⟩
    rw [e1, e2] at h2; simp at h2
  · intro h4
    rw [if_pos (by rw [Nat.blt_eq]; exact h4)] at h3; exact h3
  · intro h4
    rw [if_neg (by rw [Nat.blt_eq]; omega)] at h3; exact h3

theorem far_fo {Z : List Int} {i t f : Nat} (hi : i < 8) (hf : f < 64) (ht : t ∈ R f i) (h : ∀ a ∈ btw f t, zg Z a = 0) : t ∈ vis Z true (R f i) := by
  obtain ⟨j, hj⟩ := List.mem_iff_getElem?.1 ht
  have hjl : j < rl f i := by
    have := (List.getElem?_eq_some_iff.1 hj).1
    rwa [R_len] at this
  refine (vis_iff Z _ t).2 ⟨j, hj, ?_⟩
  rw [R_get hjl] at hj
  have hj' : rP f i j = t := by simpa using hj
  have hA := allN (allN (all64 tab_F hf) hi) hjl
  simp only [Bool.and_eq_true, decide_eq_true_eq] at hA
  rw [hj'] at hA
  intro a ha
  rw [hA.1.1] at ha
  exact h a ha

theorem lines_fw {t f : Nat} (hf : f < 64) (ht : t < 64) (hne : f ≠ t) : (strai f t = true → ∃ i, i < 4 ∧ t ∈ R f i) ∧ (slant f t = true → ∃ i, 4 ≤ i ∧ i < 8 ∧ t ∈ R f i) := by
  have h := all64 (all64 tab_G hf) ht
  simp only [Bool.or_eq_true, Bool.and_eq_true, Bool.not_eq_true', List.any_eq_true, List.mem_range, List.elem_eq_mem, decide_eq_true_eq] at h
  rcases h with h | ⟨h1, h2⟩
  · exact absurd (Nat.eq_of_beq_eq_true h) hne
  · refine ⟨fun e => ?_, fun e => ?_⟩
    · rcases h1 with h1 | ⟨i, hi, h1⟩
      · rw [e] at h1; simp at h1
      · exact ⟨i, hi, h1⟩
    · rcases h2 with h2 | ⟨i, hi, h2⟩
      · rw [e] at h2; simp at h2
      · exact ⟨4 + i, by omega, by omega, h2⟩

/-- WHAT IS REACHED IS WHAT IS ATTACKED. -/
theorem rch_iff (Z : List Int) {f t : Nat} (hf : f < 64) (ht : t < 64) (hx : KX (zg Z f)) : atR Z f t = true ↔ t ∈ rch Z (zg Z f) f := by
  have hnear : ∀ x : Int, zg Z f = x → (x = 1 ∨ x = -1 ∨ x = 2 ∨ x = -2 ∨ x = 6 ∨ x = -6) → (atR Z f t = true ↔ t ∈ rch Z x f) := by
    intro x e hx
    have hfar : far x = false := by rcases hx with rfl | rfl | rfl | rfl | rfl | rfl <;> decide
    have hn := near_fw hx hf ht
    have hr : t ∈ rch Z x f ↔ near x f t = true := by
      rw [hn, rch, hfar]
      simp only [vis_near, List.elem_eq_mem, decide_eq_true_eq]
    rw [hr]
    unfold atR near
    rw [e]
    by_cases hz : dX f t = 0 ∧ dY f t = 0
    · simp [hz]
    · have hz' : (!(decide (dX f t = 0) && decide (dY f t = 0))) = true := by
        simp only [Bool.not_eq_true', Bool.and_eq_false_iff, decide_eq_false_iff_not]
        by_cases h1 : dX f t = 0
        · exact Or.inr (fun h2 => hz ⟨h1, h2⟩)
        · exact Or.inl h1
      rw [if_neg hz, hz', Bool.true_and]
      rcases hx with rfl | rfl | rfl | rfl | rfl | rfl <;> simp
  have hfar : ∀ x : Int, zg Z f = x → (x = 3 ∨ x = -3 ∨ x = 4 ∨ x = -4 ∨ x = 5 ∨ x = -5) → (atR Z f t = true ↔ t ∈ rch Z x f) := by
    intro x e hx
    have hfr : far x = true := by rcases hx with rfl | rfl | rfl | rfl | rfl | rfl <;> decide
    have h1 : ¬ x.natAbs = 1 := by omega
    have h2 : ¬ x.natAbs = 2 := by omega
    have h6 : ¬ x.natAbs = 6 := by omega
    have h0 : ¬ x = 0 := by omega
    unfold atR
    rw [e, if_neg h1, if_neg h2, if_neg h6, rch, hfr]
    simp only [List.mem_flatMap]
    constructor
    · intro h
      by_cases hz : dX f t = 0 ∧ dY f t = 0
      · rw [if_pos hz] at h; simp at h
      · rw [if_neg hz] at h
        by_cases hc : x = 0 ∨ (slant f t = false ∧ strai f t = false) ∨ (x.natAbs = 3 ∧ slant f t = false) ∨ (x.natAbs = 4 ∧ strai f t = false)
        · rw [if_pos hc] at h; simp at h
        · rw [if_neg hc] at h
          have hb : ∀ a ∈ btw f t, zg Z a = 0 := by
            intro a ha
            have := List.all_eq_true.1 h a ha
            simpa using this
          have hne : f ≠ t := fun e => hz (dd_ne.2 e)
          obtain ⟨l1, l2⟩ := lines_fw hf ht hne
          have hcs : (strai f t = true ∧ x.natAbs ≠ 3) ∨ (slant f t = true ∧ x.natAbs ≠ 4) := by
            cases hs : strai f t <;> cases hl : slant f t <;> simp [hs, hl] at hc ⊢ <;> omega
          rcases hcs with ⟨hs, hk⟩ | ⟨hs, hk⟩
          · obtain ⟨i, hi, hm⟩ := l1 hs
            refine ⟨i, ?_, far_fo (by omega) hf hm hb⟩
            have : i = 0 ∨ i = 1 ∨ i = 2 ∨ i = 3 := by omega
            rcases hx with rfl | rfl | rfl | rfl | rfl | rfl <;> first | (exact absurd rfl hk) | (rcases this with rfl | rfl | rfl | rfl <;> decide)
          · obtain ⟨i, hi, hi8, hm⟩ := l2 hs
            refine ⟨i, ?_, far_fo hi8 hf hm hb⟩
            have : i = 4 ∨ i = 5 ∨ i = 6 ∨ i = 7 := by omega
            rcases hx with rfl | rfl | rfl | rfl | rfl | rfl <;> first | (exact absurd rfl hk) | (rcases this with rfl | rfl | rfl | rfl <;> decide)
    · rintro ⟨i, hi, hv⟩
      have hi8 : i < 8 ∧ (x.natAbs = 3 → 4 ≤ i) ∧ (x.natAbs = 4 → i < 4) := by
        rcases hx with rfl | rfl | rfl | rfl | rfl | rfl <;> (clear hv; revert hi; revert i; decide)
      obtain ⟨hb, hz, hs, hl⟩ := far_fw hi8.1 hf hv
      rw [if_neg hz]
      have hc : ¬ (x = 0 ∨ (slant f t = false ∧ strai f t = false) ∨ (x.natAbs = 3 ∧ slant f t = false) ∨ (x.natAbs = 4 ∧ strai f t = false)) := by
        rintro (h | ⟨ha, hb2⟩ | ⟨ha, hb2⟩ | ⟨ha, hb2⟩)
        · exact h0 h
        · by_cases h4 : i < 4
          · rw [hs h4] at hb2; simp at hb2
          · rw [hl (by omega)] at ha; simp at ha
        · rw [hl (hi8.2.1 ha)] at hb2; simp at hb2
        · rw [hs (hi8.2.2 ha)] at hb2; simp at hb2
      rw [if_neg hc]
      exact List.all_eq_true.2 (fun a ha => by simpa using hb a ha)
  unfold KX at hx
  rcases hx with h | h | h | h | h | h | h | h | h | h | h | h <;> rw [h] <;>
    first | exact hnear _ h (by decide) | exact hfar _ h (by decide)

end Go.Proofs.YtdmlamnonbmboaaDoor
