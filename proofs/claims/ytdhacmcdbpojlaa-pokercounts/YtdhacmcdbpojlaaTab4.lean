/-
  The value of a hand, told by two ways: the same for all ranks (a part of the table). No conditions.
-/
import Derived.Test.YtdhacmcdbpojlaaMath1
namespace Go.Proofs.Ytdhacmcdbpojlaa

theorem chk0x2 : ((sortedFrom 3 2).all fun l => checkR (0 :: 2 :: l)) = true := by decide +kernel
theorem chk1x2 : ((sortedFrom 3 2).all fun l => checkR (1 :: 2 :: l)) = true := by decide +kernel
theorem chk1x5 : ((sortedFrom 3 5).all fun l => checkR (1 :: 5 :: l)) = true := by decide +kernel
theorem chk1x10 : ((sortedFrom 3 10).all fun l => checkR (1 :: 10 :: l)) = true := by decide +kernel
theorem chk2x3 : ((sortedFrom 3 3).all fun l => checkR (2 :: 3 :: l)) = true := by decide +kernel
theorem chk2x4 : ((sortedFrom 3 4).all fun l => checkR (2 :: 4 :: l)) = true := by decide +kernel
theorem chk3x7 : ((sortedFrom 3 7).all fun l => checkR (3 :: 7 :: l)) = true := by decide +kernel
theorem chk3x8 : ((sortedFrom 3 8).all fun l => checkR (3 :: 8 :: l)) = true := by decide +kernel
theorem chk3x9 : ((sortedFrom 3 9).all fun l => checkR (3 :: 9 :: l)) = true := by decide +kernel
theorem chk3x11 : ((sortedFrom 3 11).all fun l => checkR (3 :: 11 :: l)) = true := by decide +kernel
theorem chk5x5 : ((sortedFrom 3 5).all fun l => checkR (5 :: 5 :: l)) = true := by decide +kernel
theorem chk5x10 : ((sortedFrom 3 10).all fun l => checkR (5 :: 10 :: l)) = true := by decide +kernel
theorem chk6x6 : ((sortedFrom 3 6).all fun l => checkR (6 :: 6 :: l)) = true := by decide +kernel
theorem chk7x7 : ((sortedFrom 3 7).all fun l => checkR (7 :: 7 :: l)) = true := by decide +kernel
theorem chk7x8 : ((sortedFrom 3 8).all fun l => checkR (7 :: 8 :: l)) = true := by decide +kernel
theorem chk7x9 : ((sortedFrom 3 9).all fun l => checkR (7 :: 9 :: l)) = true := by decide +kernel
theorem chk7x11 : ((sortedFrom 3 11).all fun l => checkR (7 :: 11 :: l)) = true := by decide +kernel
theorem chk8x12 : ((sortedFrom 3 12).all fun l => checkR (8 :: 12 :: l)) = true := by decide +kernel
theorem chk9x10 : ((sortedFrom 3 10).all fun l => checkR (9 :: 10 :: l)) = true := by decide +kernel
theorem chk11x11 : ((sortedFrom 3 11).all fun l => checkR (11 :: 11 :: l)) = true := by decide +kernel
theorem chk12x12 : ((sortedFrom 3 12).all fun l => checkR (12 :: 12 :: l)) = true := by decide +kernel

end Go.Proofs.Ytdhacmcdbpojlaa
