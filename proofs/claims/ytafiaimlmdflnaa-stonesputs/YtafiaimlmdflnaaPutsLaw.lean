/-
  The law of stones put, for every board, player and place. No conditions beyond those that each theorem bears.
-/
import Derived.Test.YtafiaimlmdflnaaPlneg
import Derived.Test.YtafiaimlmdflnaaPlbig
import Derived.Test.YtafiaimlmdflnaaPlnone
import Derived.Test.YtafiaimlmdflnaaPlyes
namespace Go.Proofs.Ytafiaimlmdflnaa
open Go.RowKit Go.Shelf

theorem puts_any (W H : Int) (a : Option Addr) (n c : Nat) (zs : List Int) (who x : Int) (w : World) (h : Rd w a n c zs) (hr : n * 8 ≤ 140737488351232) :
    Calls Try.prog 3 #[.agg (gdA W H a n c), .int .i64 who, .int .i64 x] w fun e w' => e = .returned (.bool true) ∧ Below w.heap.size w w' := by
  by_cases hm : mayP W H zs
  · obtain ⟨A, B, rfl, rfl, hW, hH, hN, -⟩ := may_nat hm h.len
    have hn1 : 0 < n := by rw [← hN]; exact Nat.mul_pos (by omega) (by omega)
    obtain ⟨cb, co, rfl, -⟩ := h.cells hn1
    by_cases x0 : x < 0
    · exact puts_neg A B cb co n c x zs who w h hm x0
    · by_cases x1 : (n : Int) ≤ x
      · exact puts_big A B cb co n c x zs who w h hm x1
      · obtain ⟨p, rfl⟩ := Int.eq_ofNat_of_zero_le (show 0 ≤ x by omega)
        by_cases hz : zs.getD p 0 = 0
        · exact puts_none A B cb co n c p zs who w h hm (by omega) hz
        · exact puts_yes A B cb co n c p zs who w h hm (by omega) hz
  · exact puts_state W H a n c zs who x w h hr hm

end Go.Proofs.Ytafiaimlmdflnaa
