/-
  The list 0 to n - 1.
-/
import Derived.Test.YtdipbbcggccgcabRiff
namespace Go.Proofs.Ytdipbbcggccgcab

def ident (n : Nat) : List Int := (List.range n).map Int.ofNat

theorem ident_length (n : Nat) : (ident n).length = n := by simp [ident]

theorem ident_get (n p : Nat) (h : p < n) : (ident n).getD p 0 = (p : Int) := by simp [ident, List.getD, h]

end Go.Proofs.Ytdipbbcggccgcab
