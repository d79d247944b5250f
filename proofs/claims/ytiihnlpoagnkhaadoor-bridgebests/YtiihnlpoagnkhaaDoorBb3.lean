/-
  What bridge.Best answers, whatever it is given. No conditions beyond those that each theorem bears.
-/
import Derived.Test.YtiihnlpoagnkhaaDoorBb2
namespace Go.Proofs.YtiihnlpoagnkhaaDoor
open Go.RowKit Go.Lib

set_option maxRecDepth 100000 in
set_option maxHeartbeats 2000000 in
theorem areHands_yes (b c n : Nat) (a0 a1 a2 a3 : Option Addr) (k0 k1 k2 k3 : Nat) (hn1 : 1 ≤ n) (hn : n ≤ 4) (w : World) (h0 : w.cell? ⟨b, 0, none⟩ = some (.slice a0 n k0)) (h1 : w.cell? ⟨b, 1, none⟩ = some (.slice a1 n k1)) (h2 : w.cell? ⟨b, 2, none⟩ = some (.slice a2 n k2)) (h3 : w.cell? ⟨b, 3, none⟩ = some (.slice a3 n k3)) :
    Calls Tryd.prog 11 #[.slice (some ⟨b, 0, none⟩) 4 c] w fun e w' => e = .returned (.bool true) ∧ Below w.heap.size w w' := by
  have hbs : b < w.heap.size := World.block_lt_of_cell? w _ h0
  have hl1 : ¬ (n : Int) < 1 := by omega
  have hl2 : (n : Int) ≤ 4 := by omega
  have hl3 : (1 : Int) ≤ (n : Int) := by omega
  have CF := hide (fun (W : World) (hB : Below w.heap.size w W) (hc : W.cell? ⟨w.heap.size, 0, none⟩ = some (.int .i64 (n : Int))) (hlt : w.heap.size < W.heap.size) =>
    Tryd.slices_ContainsFunc encH (fun x => decide (x.n ≠ n)) 23 #[.pointer (some ⟨w.heap.size, 0, none⟩)] (enters_of Tryd.func23 (by kernel_rfl) rfl) b 0 4 c [⟨a0, n, k0⟩, ⟨a1, n, k1⟩, ⟨a2, n, k2⟩, ⟨a3, n, k3⟩] W
      (fun W2 x hb => other_gives w.heap.size n x W2 ((hb.cell (p := ⟨w.heap.size, 0, none⟩) hlt).trans hc)) (by simp) (by omega) (fun j hj => by
        rw [Nat.zero_add]
        have hj4 : j < 4 := by simpa using hj
        rcases (show j = 0 ∨ j = 1 ∨ j = 2 ∨ j = 3 by omega) with rfl | rfl | rfl | rfl
        · exact (hB.cell (p := ⟨b, 0, none⟩) hbs).trans h0
        · exact (hB.cell (p := ⟨b, 1, none⟩) hbs).trans h1
        · exact (hB.cell (p := ⟨b, 2, none⟩) hbs).trans h2
        · exact (hB.cell (p := ⟨b, 3, none⟩) hbs).trans h3))
  have hany : Hid (List.any (List.take 4 [(⟨a0, n, k0⟩ : Hv), ⟨a1, n, k1⟩, ⟨a2, n, k2⟩, ⟨a3, n, k3⟩]) (fun x => decide (x.n ≠ n)) = false) := hide (by simp)
  clear h1 h2 h3
  go_enter Tryd.func11, Tryd.ntmps11
  go_wp2_with fail
  refine (CF.out _ ((Below.refl _ w).alloc (Nat.le_refl _) _) (by go_simp) (by simp)).mono ?_
  rintro e w1 ⟨rfl, q, rfl⟩
  rw [hany.out]
  go_wp2
  go_ret
  exact ⟨rfl, ((Below.refl _ w).alloc (Nat.le_refl _) _).trans (drewN_below _ _ _)⟩

set_option maxRecDepth 100000 in
set_option maxHeartbeats 2000000 in
theorem Best_unfit (a : Option Addr) (N c base : Nat) (Z : Nat → List Int) (s ld : Int) (w : World) (h : NI w base (.slice a N c) N Z) (hf : ¬ Fit N Z) :
    Calls Tryd.prog 5 #[.slice a N c, .int .i64 s, .int .i64 ld] w fun e w' => e = .returned (.tuple #[.int .i64 0, .int .i64 11]) ∧ Below w.heap.size w w' := by
  have AH := hide (areHands_no a N c base Z w h hf)
  clear h hf
  go_enter Tryd.func5, Tryd.ntmps5
  go_wp2_with fail
  refine AH.out.mono ?_
  rintro e w1 ⟨rfl, hb1⟩
  have B1 := hide hb1
  clear hb1
  go_wp2
  go_ret2
  exact ⟨rfl, B1.out⟩

/-- The first fault of hands that fit. -/
def lateE (Z : Nat → List Int) (s ld : Int) : Int := if mayE (cat Z 4) ≠ 0 then mayE (cat Z 4) else if s < 0 ∨ 4 < s then 4 else if ld < 0 ∨ 3 < ld then 5 else 0

set_option maxRecDepth 100000 in
set_option maxHeartbeats 2000000 in
theorem Best_late (g c base : Nat) (Z : Nat → List Int) (s ld : Int) (w : World) (h : NI w base (.slice (some ⟨g, 0, none⟩) 4 c) 4 Z) (hf : Fit 4 Z) (hE : lateE Z s ld ≠ 0) :
    Calls Tryd.prog 5 #[.slice (some ⟨g, 0, none⟩) 4 c, .int .i64 s, .int .i64 ld] w fun e w' => e = .returned (.tuple #[.int .i64 0, .int .i64 (lateE Z s ld)]) ∧ Below w.heap.size w w' := by
  obtain ⟨-, hn1, hn, e1, e2, e3⟩ := hf
  obtain ⟨g', hg', -, hc4, hcm⟩ := h.at0 (by omega)
  obtain ⟨n, hnn⟩ : ∃ n, (Z 0).length = n := ⟨_, rfl⟩
  rw [hnn] at hn1 hn e1 e2 e3
  obtain ⟨a0, k0, h0, r0⟩ := h.cellAt 0 (by omega)
  obtain ⟨a1, k1, h1, r1⟩ := h.cellAt 1 (by omega)
  obtain ⟨a2, k2, h2, r2⟩ := h.cellAt 2 (by omega)
  obtain ⟨a3, k3, h3, r3⟩ := h.cellAt 3 (by omega)
  rw [hnn] at h0 r0
  rw [e1] at h1 r1
  rw [e2] at h2 r2
  rw [e3] at h3 r3
  have hgs : g < w.heap.size := World.block_lt_of_cell? w _ h0
  have AH := hide (areHands_yes g c n a0 a1 a2 a3 k0 k1 k2 k3 hn1 hn w h0 h1 h2 h3)
  have CC : Hid (∀ W, Below w.heap.size w W → Calls Tryd.prog 13 #[.slice (some ⟨g, 0, none⟩) 4 c] W fun e w' => ∃ a' c', e = .returned (.slice a' (n + n + n + n) c') ∧ Rd w' a' (n + n + n + n) c' (cat Z 4) ∧ Below W.heap.size W w') := hide (fun W hW => by
    have ht : tot (fun _ => n) 4 = n + n + n + n := by simp [tot]
    have := concat_any g 4 c (fun i => if i = 0 then a0 else if i = 1 then a1 else if i = 2 then a2 else a3) (fun _ => n) (fun i => if i = 0 then k0 else if i = 1 then k1 else if i = 2 then k2 else k3) Z W (by omega) hc4 hcm (fun j hj => by
      rcases (show j = 0 ∨ j = 1 ∨ j = 2 ∨ j = 3 by omega) with rfl | rfl | rfl | rfl
      · exact (hW.cell (p := ⟨g, 0, none⟩) hgs).trans h0
      · exact (hW.cell (p := ⟨g, 1, none⟩) hgs).trans h1
      · exact (hW.cell (p := ⟨g, 2, none⟩) hgs).trans h2
      · exact (hW.cell (p := ⟨g, 3, none⟩) hgs).trans h3) (fun j hj => by
      rcases (show j = 0 ∨ j = 1 ∨ j = 2 ∨ j = 3 by omega) with rfl | rfl | rfl | rfl
      · exact r0.mono hW
      · exact r1.mono hW
      · exact r2.mono hW
      · exact r3.mono hW) (fun _ => by omega) (by rw [ht]; omega)
    rw [ht] at this
    exact this.mono fun _ _ ⟨a', c', h1, h2, h3⟩ => ⟨a', c', h1, Rd.of_own h2, h3⟩)
  clear h h0 h1 h2 h3 r0 r1 r2 r3 e1 e2 e3 hnn hg'
  generalize hE' : lateE Z s ld = E at *
  unfold lateE at hE'
  have FA := hide (fun a' c' W (hR : Rd W a' (n + n + n + n) c' (cat Z 4)) => cards_any a' (n + n + n + n) c' (cat Z 4) W hR (by omega))
  generalize mayE (cat Z 4) = M at *
  have HE := hide hE'
  clear hE'
  go_enter Tryd.func5, Tryd.ntmps5
  go_wp2_with fail
  refine AH.out.mono ?_
  rintro e w1 ⟨rfl, hb1⟩
  have B1 := hide hb1
  clear hb1
  go_wp2_with fail
  refine (CC.out _ B1.out).mono ?_
  rintro e w2 ⟨a', c', rfl, hR, hb⟩
  have B2 := hide (B1.out.trans (hb.mono B1.out.size))
  have FA2 := hide (FA.out a' c' w2 hR)
  clear hR hb FA
  go_wp2_with fail
  refine FA2.out.mono ?_
  rintro e w3 ⟨rfl, hb⟩
  have B3 := hide (B2.out.trans (hb.mono B2.out.size))
  clear hb FA2 B2 B1 AH CC
  by_cases hM : M = 0
  · have HE2 := HE.out
    rw [if_neg (by simpa using hM)] at HE2
    have HE2 := hide HE2
    subst hM
    by_cases hs : s < 0 ∨ 4 < s
    · have HE3 := HE2.out
      rw [if_pos hs] at HE3
      have IS := hide (isStrain_no s hs)
      have HE3 := hide HE3
      clear hs
      go_wp2_with fail
      refine (IS.out _).mono ?_
      rintro e w4 ⟨rfl, hw⟩
      subst w4
      go_wp2
      go_ret2
      exact ⟨by rw [← HE3.out]; rfl, B3.out⟩
    · have HE3 := HE2.out
      rw [if_neg hs] at HE3
      have hld : ld < 0 ∨ 3 < ld := by
        by_cases hld : ld < 0 ∨ 3 < ld
        · exact hld
        · rw [if_neg hld] at HE3
          exact absurd HE3.symm hE
      rw [if_pos hld] at HE3
      have HE3 := hide HE3
      obtain ⟨s', hs'⟩ : ∃ s' : Nat, s = (s' : Int) := ⟨s.toNat, by omega⟩
      subst hs'
      have IS := hide (isStrain_any s' (by omega))
      clear hs
      rcases hld with hld | hld
      · go_wp2_with fail
        refine (IS.out _).mono ?_
        rintro e w4 ⟨rfl, hw⟩
        subst w4
        go_wp2
        go_ret2
        exact ⟨by rw [← HE3.out]; rfl, B3.out⟩
      · have hl0 : ¬ ld < 0 := by omega
        have hl4 : (4 : Int) ≤ ld := by omega
        go_wp2_with fail
        refine (IS.out _).mono ?_
        rintro e w4 ⟨rfl, hw⟩
        subst w4
        go_wp2
        go_ret2
        exact ⟨by rw [← HE3.out]; rfl, B3.out⟩
  · have HE2 := HE.out
    rw [if_pos (by simpa using hM)] at HE2
    subst HE2
    have hM' : (M == 0) = false := by simpa using hM
    go_wp2
    go_ret2
    exact ⟨rfl, B3.out⟩

end Go.Proofs.YtiihnlpoagnkhaaDoor
