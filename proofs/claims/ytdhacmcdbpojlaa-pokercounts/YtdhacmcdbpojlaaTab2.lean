/-
  The value of a hand, told by two ways: the same for all ranks (a part of the table). No conditions.
-/
import Derived.Test.YtdhacmcdbpojlaaMath1
namespace Go.Proofs.Ytdhacmcdbpojlaa

theorem chk0x1 : ((sortedFrom 3 1).all fun l => checkR (0 :: 1 :: l)) = true := by decide +kernel
theorem chk0x4 : ((sortedFrom 3 4).all fun l => checkR (0 :: 4 :: l)) = true := by decide +kernel
theorem chk0x12 : ((sortedFrom 3 12).all fun l => checkR (0 :: 12 :: l)) = true := by decide +kernel
theorem chk1x9 : ((sortedFrom 3 9).all fun l => checkR (1 :: 9 :: l)) = true := by decide +kernel
theorem chk1x11 : ((sortedFrom 3 11).all fun l => checkR (1 :: 11 :: l)) = true := by decide +kernel
theorem chk2x2 : ((sortedFrom 3 2).all fun l => checkR (2 :: 2 :: l)) = true := by decide +kernel
theorem chk2x6 : ((sortedFrom 3 6).all fun l => checkR (2 :: 6 :: l)) = true := by decide +kernel
theorem chk2x7 : ((sortedFrom 3 7).all fun l => checkR (2 :: 7 :: l)) = true := by decide +kernel
theorem chk2x8 : ((sortedFrom 3 8).all fun l => checkR (2 :: 8 :: l)) = true := by decide +kernel
theorem chk2x12 : ((sortedFrom 3 12).all fun l => checkR (2 :: 12 :: l)) = true := by decide +kernel
theorem chk4x4 : ((sortedFrom 3 4).all fun l => checkR (4 :: 4 :: l)) = true := by decide +kernel
theorem chk4x5 : ((sortedFrom 3 5).all fun l => checkR (4 :: 5 :: l)) = true := by decide +kernel
theorem chk4x10 : ((sortedFrom 3 10).all fun l => checkR (4 :: 10 :: l)) = true := by decide +kernel
theorem chk4x11 : ((sortedFrom 3 11).all fun l => checkR (4 :: 11 :: l)) = true := by decide +kernel
theorem chk4x12 : ((sortedFrom 3 12).all fun l => checkR (4 :: 12 :: l)) = true := by decide +kernel
theorem chk5x6 : ((sortedFrom 3 6).all fun l => checkR (5 :: 6 :: l)) = true := by decide +kernel
theorem chk5x9 : ((sortedFrom 3 9).all fun l => checkR (5 :: 9 :: l)) = true := by decide +kernel
theorem chk6x7 : ((sortedFrom 3 7).all fun l => checkR (6 :: 7 :: l)) = true := by decide +kernel
theorem chk6x8 : ((sortedFrom 3 8).all fun l => checkR (6 :: 8 :: l)) = true := by decide +kernel
theorem chk6x12 : ((sortedFrom 3 12).all fun l => checkR (6 :: 12 :: l)) = true := by decide +kernel
theorem chk8x10 : ((sortedFrom 3 10).all fun l => checkR (8 :: 10 :: l)) = true := by decide +kernel
theorem chk8x11 : ((sortedFrom 3 11).all fun l => checkR (8 :: 11 :: l)) = true := by decide +kernel
theorem chk9x9 : ((sortedFrom 3 9).all fun l => checkR (9 :: 9 :: l)) = true := by decide +kernel
theorem chk10x12 : ((sortedFrom 3 12).all fun l => checkR (10 :: 12 :: l)) = true := by decide +kernel

end Go.Proofs.Ytdhacmcdbpojlaa
