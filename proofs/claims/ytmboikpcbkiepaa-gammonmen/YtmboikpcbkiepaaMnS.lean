/-
  The order of a throw makes nothing, and how many boards the start with 3 and 1 brings. No conditions beyond those that each theorem bears.
-/
import Derived.Test.YtmboikpcbkiepaaMvl
namespace Go.Proofs.Ytmboikpcbkiepaa

theorem mvB_comm (t x y : Nat) (S : List Bo) : mvB t x y S = mvB t y x S := by
  unfold mvB
  by_cases e : x = y
  · rw [e]
  · rw [if_neg e, if_neg (fun h => e h.symm), Nat.max_comm, Nat.min_comm]

def stP : List Int := [0, -2, 0, 0, 0, 0, 5, 0, 3, 0, 0, 0, -5, 5, 0, 0, 0, -3, 0, -5, 0, 0, 0, 0, 2, 0]

set_option maxRecDepth 100000 in
theorem start_16 : (mvB 0 3 1 [⟨stP, 0, 0⟩]).length = 16 := by decide +kernel

end Go.Proofs.Ytmboikpcbkiepaa
