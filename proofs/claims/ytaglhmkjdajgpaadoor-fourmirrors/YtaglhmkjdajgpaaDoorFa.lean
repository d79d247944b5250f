/-
  The document's own place to which a sign falls. No conditions beyond those that each theorem bears.
-/
import Derived.Test.YtaglhmkjdajgpaaDoorDr
namespace Go.Proofs.YtaglhmkjdajgpaaDoor
open Go.RowKit

attribute [local irreducible] fallN

set_option maxRecDepth 100000 in
set_option maxHeartbeats 2000000 in
theorem fallTo_any (gW gH : Nat) (a : Option Addr) (n c col : Nat) (zs : List Int) (hgW : 1 ≤ gW ∧ gW ≤ 10) (hgH : 1 ≤ gH ∧ gH ≤ 10) (hm : gW * gH = n) (hcol : col < gW) (w : World) (h : Rd w a n c zs) :
    Calls Tryd.prog 35 #[.agg (gdA gW gH a n c), .int .i64 col] w fun e w' => e = .returned (.int .i64 (fallI (fallN gW zs col gH))) ∧ Below w.heap.size w w' := by
  have hcm := h.max
  unfold maxLen at hcm
  have hcc := h.cap
  have hn1 : 0 < n := by
    have : 1 * 1 ≤ gW * gH := Nat.mul_le_mul hgW.1 hgH.1
    omega
  have hnq : n ≤ 100 := by
    have : gW * gH ≤ 10 * 10 := Nat.mul_le_mul hgW.2 hgH.2
    omega
  obtain ⟨b, off, rfl, hc⟩ := h.cells hn1
  have hgb : b < w.heap.size := World.block_lt_of_cell? w _ (hc 0 hn1)
  obtain ⟨w1, hw1⟩ : ∃ w1, w.alloc (.cells (gdA gW gH (some ⟨b, off, none⟩) n c) 24) = w1 := ⟨_, rfl⟩
  have HB : Hid (Below w.heap.size w w1) := hide (by rw [← hw1]; exact (Below.refl _ _).alloc (Nat.le_refl _) _)
  have HC : Hid (∀ i, i < n → w1.cell? ⟨b, off + i, none⟩ = some (.int .i64 (zs.getD i 0))) := hide (fun i hi => (HB.out.cell (p := ⟨b, off + i, none⟩) hgb).trans (hc i hi))
  obtain ⟨g0, g1, g2⟩ := (show Gd w1 w.heap.size gW gH (some ⟨b, off, none⟩) n c by rw [← hw1]; exact Gd.new _ _ _ _ _ _).cells
  have HM := hide hm
  clear h hc hm
  go_enter Tryd.func35, Tryd.ntmps35
  go_upto_region 1 with fail
  clear hw1
  go_wp2_with fail
  go_loopw [5, 6] (fun o v wr => ∃ y : Nat, v = .int .i64 y ∧ y ≤ gH ∧ o = .int .i64 (fallI (fallN gW zs col y)) ∧ w1 = wr) (fun _ v _ => gH - (intOf v).toNat)
  case atStart => exact ⟨0, rfl, by omega, by rw [fallN_zero]; rfl, rfl⟩
  case round =>
    obtain ⟨y, rfl, hy, rfl, rfl⟩ := hrel
    by_cases hlt : y < gH
    · have hlt' : (y : Int) < (gH : Int) := by omega
      obtain ⟨A, hA⟩ : ∃ A, y * gW = A := ⟨_, rfl⟩
      have hA' : (y : Int) * (gW : Int) = (A : Int) := by rw [← hA]; simp
      have hAn : A + gW ≤ n := by
        have h1 : (y + 1) * gW ≤ gH * gW := Nat.mul_le_mul_right _ hlt
        rw [Nat.succ_mul, hA] at h1
        have := HM.out
        rw [Nat.mul_comm] at this
        omega
      have HH : Hid (zs.getD (A + col) 0 = 0 → fallN gW zs col (y + 1) = some (A + col)) := hide (fun e => by rw [← hA]; exact fallN_hit (by rw [hA]; exact e))
      have HX : Hid (¬ zs.getD (A + col) 0 = 0 → fallN gW zs col (y + 1) = fallN gW zs col y) := hide (fun e => fallN_miss (by rw [hA]; exact e))
      obtain ⟨p, hp⟩ : ∃ p, A + col = p := ⟨_, rfl⟩
      have hAp : (A : Int) + (col : Int) = (p : Int) := by omega
      have hpn : p < n := by omega
      rw [hp] at HH HX
      have cp := HC.out p hpn
      obtain ⟨z, hz⟩ : ∃ z, zs.getD p 0 = z := ⟨_, rfl⟩
      rw [hz] at cp HH HX
      clear hz hp hA
      obtain ⟨F, hF⟩ : ∃ F, fallI (fallN gW zs col y) = F := ⟨_, rfl⟩
      have HF := hide hF
      rw [hF]
      clear hF
      by_cases h0 : z = 0
      · have HH2 := hide (HH.out h0)
        have hz0 : (z == (0 : Int)) = true := by simpa using h0
        clear h0 HH HX
        go_wp2_with fail
        exact ⟨⟨y + 1, by go_num, by omega, by rw [HH2.out]; rfl, trivial⟩, by simp [intOf]; omega⟩
      · have HH2 := hide (HX.out h0)
        have hz0 : (z == (0 : Int)) = false := by simpa using h0
        clear h0 HH HX
        go_wp2_with fail
        exact ⟨⟨y + 1, by go_num, by omega, by rw [HH2.out, HF.out], trivial⟩, by simp [intOf]; omega⟩
    · have hlt' : ¬ (y : Int) < (gH : Int) := by omega
      have hye : y = gH := by omega
      subst hye
      go_wp2_with fail
      go_ret
      exact ⟨rfl, HB.out⟩

end Go.Proofs.YtaglhmkjdajgpaaDoor
