/-
  What bridge.Best refuses. No conditions beyond those that each theorem bears.
-/
import Derived.Test.YtiihnlpoagnkhaaDoorBb1
namespace Go.Proofs.YtiihnlpoagnkhaaDoor
open Go.RowKit Go.Lib

set_option maxHeartbeats 2000000 in
theorem areHands_few (a : Option Addr) (N c : Nat) (w : World) (h : N ≠ 4) :
    Calls Tryd.prog 11 #[.slice a N c] w fun e w' => e = .returned (.bool false) ∧ Below w.heap.size w w' := by
  have hb : ((N : Int) == 4) = false := by simp; omega
  go_enter Tryd.func11, Tryd.ntmps11
  go_wp2
  go_ret
  exact ⟨rfl, Below.refl _ _⟩

set_option maxRecDepth 100000 in
set_option maxHeartbeats 2000000 in
theorem areHands_size (g c n0 : Nat) (a0 : Option Addr) (c0 : Nat) (w : World) (h : w.cell? ⟨g, 0, none⟩ = some (.slice a0 n0 c0)) (hn : n0 < 1 ∨ 4 < n0) :
    Calls Tryd.prog 11 #[.slice (some ⟨g, 0, none⟩) 4 c] w fun e w' => e = .returned (.bool false) ∧ Below w.heap.size w w' := by
  rcases hn with hn | hn
  · have h1 : ¬ (1 : Int) ≤ (n0 : Int) := by omega
    go_enter Tryd.func11, Tryd.ntmps11
    go_wp2
    go_ret
    exact ⟨rfl, (Below.refl _ w).alloc (Nat.le_refl _) _⟩
  · have h1 : (1 : Int) ≤ (n0 : Int) := by omega
    have h2 : ¬ (n0 : Int) ≤ 4 := by omega
    go_enter Tryd.func11, Tryd.ntmps11
    go_wp2
    go_ret
    exact ⟨rfl, (Below.refl _ w).alloc (Nat.le_refl _) _⟩

set_option maxRecDepth 100000 in
set_option maxHeartbeats 2000000 in
theorem areHands_same (b c n : Nat) (n1 n2 n3 : Nat) (a0 a1 a2 a3 : Option Addr) (k0 k1 k2 k3 : Nat) (hn1 : 1 ≤ n) (hn : n ≤ 4) (w : World) (h0 : w.cell? ⟨b, 0, none⟩ = some (.slice a0 n k0)) (h1 : w.cell? ⟨b, 1, none⟩ = some (.slice a1 n1 k1)) (h2 : w.cell? ⟨b, 2, none⟩ = some (.slice a2 n2 k2)) (h3 : w.cell? ⟨b, 3, none⟩ = some (.slice a3 n3 k3)) (hno : ¬ (n1 = n ∧ n2 = n ∧ n3 = n)) :
    Calls Tryd.prog 11 #[.slice (some ⟨b, 0, none⟩) 4 c] w fun e w' => e = .returned (.bool false) ∧ Below w.heap.size w w' := by
  have hbs : b < w.heap.size := World.block_lt_of_cell? w _ h0
  have hl1 : ¬ (n : Int) < 1 := by omega
  have hl2 : (n : Int) ≤ 4 := by omega
  have hl3 : (1 : Int) ≤ (n : Int) := by omega
  have CF := hide (fun (W : World) (hB : Below w.heap.size w W) (hc : W.cell? ⟨w.heap.size, 0, none⟩ = some (.int .i64 (n : Int))) (hlt : w.heap.size < W.heap.size) =>
    Tryd.slices_ContainsFunc encH (fun x => decide (x.n ≠ n)) 23 #[.pointer (some ⟨w.heap.size, 0, none⟩)] (enters_of Tryd.func23 (by kernel_rfl) rfl) b 0 4 c [⟨a0, n, k0⟩, ⟨a1, n1, k1⟩, ⟨a2, n2, k2⟩, ⟨a3, n3, k3⟩] W
      (fun W2 x hb => other_gives w.heap.size n x W2 ((hb.cell (p := ⟨w.heap.size, 0, none⟩) hlt).trans hc)) (by simp) (by omega) (fun j hj => by
        rw [Nat.zero_add]
        have hj4 : j < 4 := by simpa using hj
        rcases (show j = 0 ∨ j = 1 ∨ j = 2 ∨ j = 3 by omega) with rfl | rfl | rfl | rfl
        · exact (hB.cell (p := ⟨b, 0, none⟩) hbs).trans h0
        · exact (hB.cell (p := ⟨b, 1, none⟩) hbs).trans h1
        · exact (hB.cell (p := ⟨b, 2, none⟩) hbs).trans h2
        · exact (hB.cell (p := ⟨b, 3, none⟩) hbs).trans h3))
  have hany : Hid (List.any (List.take 4 [(⟨a0, n, k0⟩ : Hv), ⟨a1, n1, k1⟩, ⟨a2, n2, k2⟩, ⟨a3, n3, k3⟩]) (fun x => decide (x.n ≠ n)) = true) := hide (by
    rw [List.any_eq_true]
    by_cases e1 : n1 = n
    · by_cases e2 : n2 = n
      · exact ⟨⟨a3, n3, k3⟩, by simp, by simp; omega⟩
      · exact ⟨⟨a2, n2, k2⟩, by simp, by simpa using e2⟩
    · exact ⟨⟨a1, n1, k1⟩, by simp, by simpa using e1⟩)
  clear h1 h2 h3 hno
  go_enter Tryd.func11, Tryd.ntmps11
  go_wp2_with fail
  refine (CF.out _ ((Below.refl _ w).alloc (Nat.le_refl _) _) (by go_simp) (by simp)).mono ?_
  rintro e w1 ⟨rfl, q, rfl⟩
  rw [hany.out]
  go_wp2
  go_ret
  exact ⟨rfl, ((Below.refl _ w).alloc (Nat.le_refl _) _).trans (drewN_below _ _ _)⟩

/-- Four hands of the same length, one to four cards each. -/
def Fit (N : Nat) (Z : Nat → List Int) : Prop := N = 4 ∧ 1 ≤ (Z 0).length ∧ (Z 0).length ≤ 4 ∧ (Z 1).length = (Z 0).length ∧ (Z 2).length = (Z 0).length ∧ (Z 3).length = (Z 0).length

theorem areHands_no (a : Option Addr) (N c base : Nat) (Z : Nat → List Int) (w : World) (h : NI w base (.slice a N c) N Z) (hf : ¬ Fit N Z) :
    Calls Tryd.prog 11 #[.slice a N c] w fun e w' => e = .returned (.bool false) ∧ Below w.heap.size w w' := by
  by_cases hN : N = 4
  · subst hN
    obtain ⟨g, rfl, -⟩ := h.at0 (by omega)
    obtain ⟨a0, k0, h0, -⟩ := h.cellAt 0 (by omega)
    obtain ⟨a1, k1, h1, -⟩ := h.cellAt 1 (by omega)
    obtain ⟨a2, k2, h2, -⟩ := h.cellAt 2 (by omega)
    obtain ⟨a3, k3, h3, -⟩ := h.cellAt 3 (by omega)
    by_cases h4 : (Z 0).length < 1 ∨ 4 < (Z 0).length
    · exact areHands_size g c _ a0 k0 w h0 h4
    · refine areHands_same g c _ _ _ _ a0 a1 a2 a3 k0 k1 k2 k3 (by omega) (by omega) w h0 h1 h2 h3 (fun e => hf ⟨rfl, by omega, by omega, e.1, e.2.1, e.2.2⟩)
  · exact areHands_few a N c w hN

theorem NI.hs {w : World} {base g c : Nat} {Z : Nat → List Int} (h : NI w base (.slice (some ⟨g, 0, none⟩) 4 c) 4 Z) (hf : Fit 4 Z) (Y : Nat → List Nat) (hY : ∀ i, i < 4 → toI (Y i) = Z i) : HS w g (Z 0).length Y :=
  ⟨fun i hi => by
    obtain ⟨a, cc, h1, h2⟩ := h.cellAt i hi
    obtain ⟨-, -, -, e1, e2, e3⟩ := hf
    have e : (Z i).length = (Z 0).length := by
      rcases (show i = 0 ∨ i = 1 ∨ i = 2 ∨ i = 3 by omega) with rfl | rfl | rfl | rfl
      · rfl
      · exact e1
      · exact e2
      · exact e3
    rw [e] at h1 h2
    exact ⟨a, cc, h1, by rw [hY i hi]; exact h2⟩⟩

set_option maxHeartbeats 400000 in
theorem isStrain_no (s : Int) (hs : s < 0 ∨ 4 < s) (w : World) : Calls Tryd.prog 14 #[.int .i64 s] w fun e w' => e = .returned (.bool false) ∧ w' = w := by
  rcases hs with hs | hs
  · have h1 : ¬ (0 : Int) ≤ s := by omega
    go_enter Tryd.func14, Tryd.ntmps14
    go_wp2
    go_ret
    exact ⟨rfl, rfl⟩
  · have h1 : (0 : Int) ≤ s := by omega
    have h2 : ¬ s < 5 := by omega
    go_enter Tryd.func14, Tryd.ntmps14
    go_wp2
    go_ret
    exact ⟨rfl, rfl⟩

end Go.Proofs.YtiihnlpoagnkhaaDoor
