/-
  The value of a hand, told by two ways: the same for all ranks (a part of the table). No conditions.
-/
import Derived.Test.YtdhacmcdbpojlaaMath1
namespace Go.Proofs.Ytdhacmcdbpojlaa

theorem chk0x0 : ((sortedFrom 3 0).all fun l => checkR (0 :: 0 :: l)) = true := by decide +kernel
theorem chk0x5 : ((sortedFrom 3 5).all fun l => checkR (0 :: 5 :: l)) = true := by decide +kernel
theorem chk0x6 : ((sortedFrom 3 6).all fun l => checkR (0 :: 6 :: l)) = true := by decide +kernel
theorem chk0x7 : ((sortedFrom 3 7).all fun l => checkR (0 :: 7 :: l)) = true := by decide +kernel
theorem chk0x8 : ((sortedFrom 3 8).all fun l => checkR (0 :: 8 :: l)) = true := by decide +kernel
theorem chk1x3 : ((sortedFrom 3 3).all fun l => checkR (1 :: 3 :: l)) = true := by decide +kernel
theorem chk1x4 : ((sortedFrom 3 4).all fun l => checkR (1 :: 4 :: l)) = true := by decide +kernel
theorem chk1x12 : ((sortedFrom 3 12).all fun l => checkR (1 :: 12 :: l)) = true := by decide +kernel
theorem chk2x5 : ((sortedFrom 3 5).all fun l => checkR (2 :: 5 :: l)) = true := by decide +kernel
theorem chk2x10 : ((sortedFrom 3 10).all fun l => checkR (2 :: 10 :: l)) = true := by decide +kernel
theorem chk3x6 : ((sortedFrom 3 6).all fun l => checkR (3 :: 6 :: l)) = true := by decide +kernel
theorem chk3x12 : ((sortedFrom 3 12).all fun l => checkR (3 :: 12 :: l)) = true := by decide +kernel
theorem chk4x7 : ((sortedFrom 3 7).all fun l => checkR (4 :: 7 :: l)) = true := by decide +kernel
theorem chk4x8 : ((sortedFrom 3 8).all fun l => checkR (4 :: 8 :: l)) = true := by decide +kernel
theorem chk4x9 : ((sortedFrom 3 9).all fun l => checkR (4 :: 9 :: l)) = true := by decide +kernel
theorem chk5x11 : ((sortedFrom 3 11).all fun l => checkR (5 :: 11 :: l)) = true := by decide +kernel
theorem chk5x12 : ((sortedFrom 3 12).all fun l => checkR (5 :: 12 :: l)) = true := by decide +kernel
theorem chk6x10 : ((sortedFrom 3 10).all fun l => checkR (6 :: 10 :: l)) = true := by decide +kernel
theorem chk8x8 : ((sortedFrom 3 8).all fun l => checkR (8 :: 8 :: l)) = true := by decide +kernel
theorem chk8x9 : ((sortedFrom 3 9).all fun l => checkR (8 :: 9 :: l)) = true := by decide +kernel
theorem chk9x11 : ((sortedFrom 3 11).all fun l => checkR (9 :: 11 :: l)) = true := by decide +kernel
theorem chk9x12 : ((sortedFrom 3 12).all fun l => checkR (9 :: 12 :: l)) = true := by decide +kernel
theorem chk10x10 : ((sortedFrom 3 10).all fun l => checkR (10 :: 10 :: l)) = true := by decide +kernel

end Go.Proofs.Ytdhacmcdbpojlaa
