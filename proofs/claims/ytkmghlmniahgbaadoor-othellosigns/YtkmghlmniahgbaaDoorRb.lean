/-
  What the document says is best, so many moves deep: at every board. No conditions beyond those that each theorem bears.
-/
import Derived.Test.YtkmghlmniahgbaaDoorRbL
import Derived.Test.YtkmghlmniahgbaaDoorRbM
import Derived.Test.YtkmghlmniahgbaaDoorRbP
namespace Go.Proofs.YtkmghlmniahgbaaDoor

theorem rb_all (gW gH n : Nat) : ∀ l, l ≤ 6 → ∀ (zs : List Int) (m : Nat), Og gW gH n zs → (m = 1 ∨ m = 2) → RbAt gW gH n l zs m
  | 0, _, zs, m, b, hm => rb_lead gW gH n 0 zs m b hm (by omega) (ob_zero _ _ _ _) (Or.inl rfl)
  | l + 1, hl, zs, m, b, hm => by
    have ih := rb_all gW gH n l (by omega)
    have mv : ∀ m', (m' = 1 ∨ m' = 2) → sps gW gH zs m' ≠ [] → RbAt gW gH n (l + 1) zs m' := fun m' hm' hs => rb_moves gW gH n l zs m' b hm' (by omega) hs (fun p => ih _ _ (b.pz hm') (by omega))
    by_cases hs : sps gW gH zs m = []
    · by_cases hs2 : sps gW gH zs (3 - m) = []
      · exact rb_lead gW gH n (l + 1) zs m b hm hl (ob_none hs hs2) (Or.inr ⟨by omega, hs, hs2⟩)
      · exact rb_pass gW gH n l zs m b hm (by omega) hs hs2 (mv (3 - m) (by omega) hs2)
    · exact mv m hm hs

end Go.Proofs.YtkmghlmniahgbaaDoor
