/-
  The value of a hand, told by two ways: the same for all ranks (a part of the table). No conditions.
-/
import Derived.Test.YtdhacmcdbpojlaaMath1
namespace Go.Proofs.Ytdhacmcdbpojlaa

theorem chk0x3 : ((sortedFrom 3 3).all fun l => checkR (0 :: 3 :: l)) = true := by decide +kernel
theorem chk0x9 : ((sortedFrom 3 9).all fun l => checkR (0 :: 9 :: l)) = true := by decide +kernel
theorem chk0x10 : ((sortedFrom 3 10).all fun l => checkR (0 :: 10 :: l)) = true := by decide +kernel
theorem chk0x11 : ((sortedFrom 3 11).all fun l => checkR (0 :: 11 :: l)) = true := by decide +kernel
theorem chk1x1 : ((sortedFrom 3 1).all fun l => checkR (1 :: 1 :: l)) = true := by decide +kernel
theorem chk1x6 : ((sortedFrom 3 6).all fun l => checkR (1 :: 6 :: l)) = true := by decide +kernel
theorem chk1x7 : ((sortedFrom 3 7).all fun l => checkR (1 :: 7 :: l)) = true := by decide +kernel
theorem chk1x8 : ((sortedFrom 3 8).all fun l => checkR (1 :: 8 :: l)) = true := by decide +kernel
theorem chk2x9 : ((sortedFrom 3 9).all fun l => checkR (2 :: 9 :: l)) = true := by decide +kernel
theorem chk2x11 : ((sortedFrom 3 11).all fun l => checkR (2 :: 11 :: l)) = true := by decide +kernel
theorem chk3x3 : ((sortedFrom 3 3).all fun l => checkR (3 :: 3 :: l)) = true := by decide +kernel
theorem chk3x4 : ((sortedFrom 3 4).all fun l => checkR (3 :: 4 :: l)) = true := by decide +kernel
theorem chk3x5 : ((sortedFrom 3 5).all fun l => checkR (3 :: 5 :: l)) = true := by decide +kernel
theorem chk3x10 : ((sortedFrom 3 10).all fun l => checkR (3 :: 10 :: l)) = true := by decide +kernel
theorem chk4x6 : ((sortedFrom 3 6).all fun l => checkR (4 :: 6 :: l)) = true := by decide +kernel
theorem chk5x7 : ((sortedFrom 3 7).all fun l => checkR (5 :: 7 :: l)) = true := by decide +kernel
theorem chk5x8 : ((sortedFrom 3 8).all fun l => checkR (5 :: 8 :: l)) = true := by decide +kernel
theorem chk6x9 : ((sortedFrom 3 9).all fun l => checkR (6 :: 9 :: l)) = true := by decide +kernel
theorem chk6x11 : ((sortedFrom 3 11).all fun l => checkR (6 :: 11 :: l)) = true := by decide +kernel
theorem chk7x10 : ((sortedFrom 3 10).all fun l => checkR (7 :: 10 :: l)) = true := by decide +kernel
theorem chk7x12 : ((sortedFrom 3 12).all fun l => checkR (7 :: 12 :: l)) = true := by decide +kernel
theorem chk10x11 : ((sortedFrom 3 11).all fun l => checkR (10 :: 11 :: l)) = true := by decide +kernel
theorem chk11x12 : ((sortedFrom 3 12).all fun l => checkR (11 :: 12 :: l)) = true := by decide +kernel

end Go.Proofs.Ytdhacmcdbpojlaa
