/-
  The empty boards of at most six places, reckoned: who begins never has the worse of it. No conditions.
-/
import Derived.Test.YthdnbbjehcicbaaDoorMov
namespace Go.Proofs.YthdnbbjehcicbaaDoor

/-- All that the law asks of an empty board. -/
def okF (a b k : Nat) : Bool :=
  let zs : List Int := List.replicate (a * b) 0
  let s := bsj a b k (val a b k (emp zs (a * b)) ((emp zs (a * b)).length - 1)) (emp zs (a * b)) zs 1 (emp zs (a * b)).length
  mvO zs == 1 && decide ((emp zs (a * b)).length ≤ 9) && wn (sg zs (prt a b zs k (a * b))) == 0 && decide (0 ≤ s.1) && decide (1 ≤ s.2.length)

def sizes : List (Nat × Nat) := [(1, 1), (1, 2), (1, 3), (2, 1), (2, 2), (2, 3), (3, 1), (3, 2)]

set_option maxRecDepth 1000000 in
theorem okF1 : (sizes.all fun p => okF p.1 p.2 1) = true := by decide +kernel
set_option maxRecDepth 1000000 in
theorem okF2 : (sizes.all fun p => okF p.1 p.2 2) = true := by decide +kernel
set_option maxRecDepth 1000000 in
theorem okF3 : (sizes.all fun p => okF p.1 p.2 3) = true := by decide +kernel
set_option maxRecDepth 1000000 in
theorem okF4 : (sizes.all fun p => okF p.1 p.2 4) = true := by decide +kernel

attribute [local irreducible] okF in
theorem okF_all {a b k : Nat} (h : (a, b) ∈ sizes) (hk : 1 ≤ k ∧ k ≤ 4) : okF a b k = true := by
  rcases (show k = 1 ∨ k = 2 ∨ k = 3 ∨ k = 4 by omega) with rfl | rfl | rfl | rfl
  · exact List.all_eq_true.1 okF1 _ h
  · exact List.all_eq_true.1 okF2 _ h
  · exact List.all_eq_true.1 okF3 _ h
  · exact List.all_eq_true.1 okF4 _ h

end Go.Proofs.YthdnbbjehcicbaaDoor
