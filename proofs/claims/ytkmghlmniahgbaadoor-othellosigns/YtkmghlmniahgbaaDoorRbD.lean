/-
  What the document says is best, so many moves deep: its own search, walked. No conditions beyond those that each theorem bears.
-/
import Derived.Test.YtkmghlmniahgbaaDoorOc
import Derived.Test.YtkmghlmniahgbaaDoorOv
namespace Go.Proofs.YtkmghlmniahgbaaDoor
open Go.RowKit

/-- A place, or none. -/
def plI : Option Nat → Int
  | none => -1
  | some p => (p : Int)

/-- By how many the one is ahead at the first j places. -/
def ldj (Z : List Int) (m mo j : Nat) : Int := (((List.range j).filter fun k => decide (Z.getD k 0 = (m : Int))).length : Int) - (((List.range j).filter fun k => decide (Z.getD k 0 = (mo : Int))).length : Int)

theorem ldj_zero (Z : List Int) (m mo : Nat) : ldj Z m mo 0 = 0 := rfl
theorem ldj_succ (Z : List Int) (m mo j : Nat) : ldj Z m mo (j + 1) = ldj Z m mo j + ((if Z.getD j 0 = (m : Int) then 1 else 0) - (if Z.getD j 0 = (mo : Int) then 1 else 0)) := by
  unfold ldj
  rw [List.range_succ, List.filter_append, List.filter_append]
  simp only [List.filter_cons, List.filter_nil, List.length_append, decide_eq_true_eq]
  split <;> split <;> simp <;> omega
theorem ldj_bd (Z : List Int) (m mo j : Nat) (hj : j ≤ 64) : -64 ≤ ldj Z m mo j ∧ ldj Z m mo j ≤ 64 := by
  unfold ldj
  have h1 := List.length_filter_le (fun k => decide (Z.getD k 0 = (m : Int))) (List.range j)
  have h2 := List.length_filter_le (fun k => decide (Z.getD k 0 = (mo : Int))) (List.range j)
  rw [List.length_range] at h1 h2
  omega
theorem ldj_all {W H : Nat} (Z : List Int) (m : Nat) : ldj Z m (3 - m) (W * H) = ldd W H Z m := rfl

/-- The document's search at one board. -/
def RbAt (gW gH n l : Nat) (zs : List Int) (m : Nat) : Prop := ∀ (a : Option Addr) (c : Nat) (w : World), Rd w a n c zs →
  Calls Tryd.prog 24 #[.agg (gdA gW gH a n c), .int .i64 (m : Nat), .int .i64 (l : Nat)] w fun e w' => e = .returned (.tuple #[.int .i64 (ob gW gH l zs m).1, .int .i64 (plI (ob gW gH l zs m).2)]) ∧ Below w.heap.size w w'

end Go.Proofs.YtkmghlmniahgbaaDoor
