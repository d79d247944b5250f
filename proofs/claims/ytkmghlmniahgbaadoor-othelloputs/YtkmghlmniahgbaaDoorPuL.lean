/-
  The law on puts, whatever is handed in. No conditions beyond those that each theorem bears.
-/
import Derived.Test.YtkmghlmniahgbaaDoorPuA
import Derived.Test.YtkmghlmniahgbaaDoorPuB
import Derived.Test.YtkmghlmniahgbaaDoorPuC
import Derived.Test.YtkmghlmniahgbaaDoorPuE
import Derived.Test.YtkmghlmniahgbaaDoorPuF
import Derived.Test.YtkmghlmniahgbaaDoorPuG
namespace Go.Proofs.YtkmghlmniahgbaaDoor
open Go.RowKit

theorem puts_any (W H : Int) (a : Option Addr) (n c : Nat) (zs : List Int) (who at' sx sy : Int) (w : World) (hTT : DTab w ∧ TzT w) (h : Rd w a n c zs) (hr : n * 8 ≤ 140737488351232) (_hw : -9223372036854775808 ≤ who ∧ who ≤ 9223372036854775807) (_hp : -9223372036854775808 ≤ at' ∧ at' ≤ 9223372036854775807) (_hx : -9223372036854775808 ≤ sx ∧ sx ≤ 9223372036854775807) (_hy : -9223372036854775808 ≤ sy ∧ sy ≤ 9223372036854775807) :
    Calls Tryd.prog 3 #[.agg (gdA W H a n c), .int .i64 who, .int .i64 at', .int .i64 sx, .int .i64 sy] w fun e w' => e = .returned (.bool true) ∧ Below w.heap.size w w' := by
  by_cases hM : oMay W H zs = false
  · exact puts_state W H a n c zs who at' sx sy w hTT h hr hM
  · obtain ⟨gW, gH, rfl, rfl, b⟩ := og_of h.len (by simpa using hM)
    by_cases hw1 : who = 1 ∨ who = 2
    · obtain ⟨m, rfl⟩ := Int.eq_ofNat_of_zero_le (show 0 ≤ who by omega)
      have hm : m = 1 ∨ m = 2 := by omega
      by_cases h1 : at' < 0
      · exact puts_neg gW gH a n c zs m at' sx sy w hTT h hr b hm h1
      · by_cases h2 : (n : Int) ≤ at'
        · exact puts_big gW gH a n c zs m at' sx sy w hTT h hr b hm h2
        · obtain ⟨p, rfl⟩ := Int.eq_ofNat_of_zero_le (show 0 ≤ at' by omega)
          by_cases hin : p ∈ sps gW gH zs m
          · exact puts_yes gW gH a n c zs m p sx sy w hTT h hr b hm (by omega) hin
          · exact puts_rule gW gH a n c zs m p sx sy w hTT h hr b hm (by omega) hin
    · exact puts_who gW gH a n c zs who at' sx sy w hTT h hr b (fun e => hw1 (Or.inl e)) (fun e => hw1 (Or.inr e))

end Go.Proofs.YtkmghlmniahgbaaDoor
