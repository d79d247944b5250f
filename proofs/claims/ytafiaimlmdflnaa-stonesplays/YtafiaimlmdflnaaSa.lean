/-
  Boards compared. No conditions beyond those that each theorem bears.
-/
import Derived.Test.YtafiaimlmdflnaaGm
namespace Go.Proofs.Ytafiaimlmdflnaa
open Go.RowKit

set_option maxHeartbeats 1000000 in
theorem SameGrid_any (W H : Int) (a b : Option Addr) (n c d : Nat) (xs ys : List Int) (w : World) (hx : Rd w a n c xs) (hy : Rd w b n d ys) :
    Calls Try.prog 17 #[.agg (gdA W H a n c), .agg (gdA W H b n d)] w fun e w' => e = .returned (.bool (decide (xs = ys))) ∧ Below w.heap.size w w' := by
  obtain ⟨w1, hw1⟩ : ∃ w1, (w.alloc (.cells (gdA W H a n c) 24)).alloc (.cells (gdA W H b n d) 24) = w1 := ⟨_, rfl⟩
  have HB : Hid (Below w.heap.size w w1) := hide (by rw [← hw1]; exact ((Below.refl _ _).alloc (Nat.le_refl _) _).alloc (by simp) _)
  have HS := hide (sameInts2_any a b n c n d xs ys w1 (hx.mono HB.out) (hy.mono HB.out))
  obtain ⟨bb, hbb⟩ : ∃ bb, decide (xs = ys) = bb := ⟨_, rfl⟩
  rw [hbb] at HS ⊢
  clear hbb
  obtain ⟨g0, g1, g2⟩ := (show Gd w1 w.heap.size W H a n c by rw [← hw1]; exact (Gd.new w _ _ _ _ _).old _).cells
  obtain ⟨k0, k1, k2⟩ := (show Gd w1 (w.heap.size + 1) W H b n d by rw [← hw1]; have := Gd.new (w.alloc (.cells (gdA W H a n c) 24)) W H b n d; rw [World.size_alloc] at this; exact this).cells
  clear hx hy
  go_enter Try.func17, Try.ntmps17
  go_upto_region 1 with fail
  clear hw1
  go_wp2_with fail
  refine HS.out.mono ?_
  rintro e w2 ⟨rfl, q, rfl⟩
  have HB2 := hide (HB.out.trans (drewN_below w.heap.size w1 q))
  clear g0 g1 g2 k0 k1 k2 HS
  go_wp2_with fail
  go_ret
  exact ⟨rfl, HB2.out⟩

end Go.Proofs.Ytafiaimlmdflnaa
