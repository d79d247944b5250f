/-
  Whether each group of a board has liberties, as the law asks it. No conditions beyond those that each theorem bears.
-/
import Derived.Test.YtafiaimlmdflnaaFm
namespace Go.Proofs.Ytafiaimlmdflnaa
open Go.RowKit Go.Shelf

attribute [local irreducible] D4 spr rgs rgsU lib goneU gone clr grp pz pt pE

set_option maxRecDepth 100000 in
set_option maxHeartbeats 8000000 in
theorem free_any (W H cb co N c : Nat) (zs : List Int) (w : World) (h : Rd w (some ⟨cb, co, none⟩) N c zs) (hm : mayP W H zs) (hf : frB W H zs) :
    Calls Try.prog 27 #[.agg (gdA W H (some ⟨cb, co, none⟩) N c)] w fun e w' => e = .returned (.bool true) ∧ Below w.heap.size w w' := by
  obtain ⟨A, B', e1, e2, hW, hH, hN, -⟩ := may_nat hm h.len
  obtain rfl : W = A := by omega
  obtain rfl : H = B' := by omega
  have hcap := h.cap
  have hmx : c ≤ 9223372036854775807 := by have := h.max; unfold maxLen at this; omega
  obtain ⟨w1, hw1⟩ : ∃ w1, w.alloc (.cells (gdA W H (some ⟨cb, co, none⟩) N c) 24) = w1 := ⟨_, rfl⟩
  have B1 : Below w.heap.size w w1 := by rw [← hw1]; exact (Below.refl _ _).alloc (Nat.le_refl _) _
  have HG1 : Hid (Gd w1 w.heap.size W H (some ⟨cb, co, none⟩) N c) := hide (by rw [← hw1]; exact Gd.new w W H _ N c)
  have HB1 := hide B1
  have HRR : Hid (∀ W4, Below w1.heap.size w1 W4 → Rd W4 (some ⟨cb, co, none⟩) N c zs) := hide (fun W4 hb => (h.mono B1).mono hb)
  have HGP := hide (fun q (hq : q < N) (hz : ¬ zs.getD q 0 = 0) W4 (hb : Below w1.heap.size w1 W4) => Group_yes W H cb co N c q zs W4 ((h.mono B1).mono hb) hm hq hz)
  have HFR : Hid (∀ q, q < N → ¬ zs.getD q 0 = 0 → (lib W H zs (grp W H zs q)).length ≠ 0) := hide (fun q hq hz => hf q (by rw [hN]; exact hq) hz)
  have HLB : Hid (∀ q, (lib W H zs (grp W H zs q)).length ≤ 100) := hide (fun q => Nat.le_trans (lib_len _ _ _ _) (Nat.mul_le_mul hW.2 hH.2))
  clear B1 h hm e1 e2 hf
  go_enter Try.func27, Try.ntmps27
  go_upto_region 1 with fail
  clear hw1
  go_wp2_with fail
  go_loopw [3] (fun v wr => ∃ j : Nat, v = .int .i64 j ∧ j ≤ N ∧ Hid (Below w1.heap.size w1 wr)) (fun v _ => N - (intOf v).toNat)
  case atStart => exact ⟨0, rfl, by omega, hide (Below.refl _ _)⟩
  case round =>
    obtain ⟨j, rfl, hjN, hB⟩ := hrel
    have hg := HG1.out.below hB.out HG1.out.lt
    obtain ⟨-, -, g2⟩ := hg.cells
    by_cases hj : j < N
    · have hj' : (j : Int) < (N : Int) := by omega
      have cz := ((HRR.out wr hB.out).cell hj).2
      by_cases hz : zs.getD j 0 = 0
      · rw [hz] at cz
        clear hg hz
        go_wp2_with fail
        exact ⟨⟨j + 1, rfl, by omega, hB⟩, by simp only [intOf]; omega⟩
      · have HC := hide (HGP.out j hj hz wr hB.out)
        have hl1 := HFR.out j hj hz
        have hl2 := HLB.out j
        obtain ⟨z, hzz⟩ : ∃ z, zs.getD j 0 = z := ⟨_, rfl⟩
        rw [hzz] at cz hz
        have hzb : (z == 0) = false := by simpa using hz
        obtain ⟨ll, hll⟩ : ∃ ll, (lib W H zs (grp W H zs j)).length = ll := ⟨_, rfl⟩
        rw [hll] at HC hl1 hl2
        have hlb : ((ll : Int) == 0) = false := by simpa using hl1
        clear hzz hz hll
        go_wp2_with (first | (refine wpList_load_gd rfl (.tmp 1) rfl w.heap.size rfl hg ?_) | fail)
        refine HC.out.mono ?_
        rintro e w2 ⟨a, d, a', d', rfl, hR1, hR2, hb2⟩
        have hd' : ll ≤ d' := hR2.cap
        have HB2 : Hid (Below w1.heap.size w1 w2) := hide (hB.out.trans (hb2.mono hB.out.size))
        clear hR1 hR2 hb2 HC hg g2 cz
        go_wp2_with fail
        exact ⟨⟨j + 1, rfl, by omega, HB2⟩, by simp only [intOf]; omega⟩
    · obtain rfl : j = N := by omega
      clear hg
      go_wp2_with fail
      go_ret
      exact ⟨rfl, HB1.out.trans (hB.out.mono HB1.out.size)⟩

end Go.Proofs.Ytafiaimlmdflnaa
