/-
  Chess: rows of moves counted: walked. No conditions beyond those that each theorem bears.
-/
import Derived.Test.YtdmlamnonbmboaaGreatDoorV37
import Derived.Test.YtdmlamnonbmboaaGreatDoorV33
namespace Go.Proofs.YtdmlamnonbmboaaGreatDoor
open Go.RowKit Go.Shelf

theorem cnP_succ (n : Nat) (p : Ps) : cnP (n + 1) p = (mvs p).foldl (fun s m => IntKind.i64.wrap (s + cnP n (nxP p m))) 0 := by rw [cnP]
theorem cnP_zero (p : Ps) : cnP 0 p = 1 := by rw [cnP]
theorem wrap_one {s : Int} (h1 : 0 ≤ s) (h2 : s ≤ 1000000) : IntKind.i64.wrap (s + 1) = s + 1 := by rw [IntKind.wrap_i64]; omega
theorem wrap_64 (x : Int) : IntKind.i64.wrap x = wrap64 x := by rw [IntKind.wrap_i64]; unfold wrap64; omega
theorem fold_one (f : (Nat × Nat × Nat) → Int) (h : ∀ m, f m = 1) : ∀ (L : List (Nat × Nat × Nat)) (s : Nat), s + L.length ≤ 1000000 → L.foldl (fun s m => IntKind.i64.wrap (s + f m)) ((s : Nat) : Int) = ((s + L.length : Nat) : Int)
  | [], s, _ => rfl
  | m :: r, s, hl => by
    rw [List.length_cons] at hl
    rw [List.foldl_cons, h m, wrap_one (by omega) (by omega), show ((s : Nat) : Int) + 1 = ((s + 1 : Nat) : Int) by omega, fold_one f h r (s + 1) (by omega), List.length_cons]
    congr 1; omega
theorem cnP_one (p : Ps) : cnP 1 p = (((mvs p).length : Nat) : Int) := by
  rw [cnP_succ]
  have := fold_one (fun m => cnP 0 (nxP p m)) (fun m => cnP_zero _) (mvs p) 0 (by have := mvs_len p; omega)
  simpa using this

attribute [local irreducible] mvs cnP nxP
attribute [local go_sem] Oper.semAt_some wide_fn wide_fn0 wide_depth

end Go.Proofs.YtdmlamnonbmboaaGreatDoor
