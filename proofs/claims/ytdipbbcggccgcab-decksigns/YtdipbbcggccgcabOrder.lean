/-
  Small facts on the list 0 to n - 1.
-/
import Derived.Test.YtdipbbcggccgcabOrd
namespace Go.Proofs.Ytdipbbcggccgcab
open Go.RowKit

theorem ident_step (n : Nat) (L : List Int) (k : Nat) (hL : L.length = n) (hk : k < n) (H : ∀ p, p < k → L.getD p 0 = (p : Int)) : ∀ p, p < k + 1 → (L.set k (k : Int)).getD p 0 = (p : Int) := by
  intro p hp
  rw [getD_set _ _ _ _ (by omega)]
  by_cases h : p = k
  · subst h; rw [if_pos rfl]
  · rw [if_neg h]; exact H p (by omega)

theorem eq_ident (n : Nat) (L : List Int) (hL : L.length = n) (H : ∀ p, p < n → L.getD p 0 = (p : Int)) : L = ident n := by
  apply List.ext_getElem (by rw [hL, ident_length])
  intro p h1 h2
  have := H p (by omega)
  rw [← ident_get n p (by omega)] at this
  simpa [List.getD, h1, h2] using this

end Go.Proofs.Ytdipbbcggccgcab
