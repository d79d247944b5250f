/-
  The law on signs, whatever is handed in. No conditions beyond those that each theorem bears.
-/
import Derived.Test.YtkmghlmniahgbaaDoorSgA
import Derived.Test.YtkmghlmniahgbaaDoorSgB
namespace Go.Proofs.YtkmghlmniahgbaaDoor
open Go.RowKit

theorem signs_any (W H : Int) (a : Option Addr) (n c : Nat) (zs : List Int) (who pick : Int) (w : World) (hTT : DTab w ∧ TzT w) (h : Rd w a n c zs) (_hr : n * 8 ≤ 140737488351232) (_hw : -9223372036854775808 ≤ who ∧ who ≤ 9223372036854775807) (hp : -9223372036854775808 ≤ pick ∧ pick ≤ 9223372036854775807) :
    Calls Tryd.prog 6 #[.agg (gdA W H a n c), .int .i64 who, .int .i64 pick] w fun e w' => e = .returned (.bool true) ∧ Below w.heap.size w w' := by
  by_cases hM : oMay W H zs = false
  · exact signs_short W H a n c zs who pick w hTT h 12 (by omega) (fun W1 h1 _ h3 => (Places_state W H a n c zs who W1 h1 h3 hM).mono (fun _ _ ⟨e1, e2⟩ => ⟨none, 0, e1, e2⟩))
  · obtain ⟨gW, gH, rfl, rfl, b⟩ := og_of h.len (by simpa using hM)
    by_cases hw1 : who = 1 ∨ who = 2
    · obtain ⟨m, rfl⟩ := Int.eq_ofNat_of_zero_le (show 0 ≤ who by omega)
      have hm : m = 1 ∨ m = 2 := by omega
      by_cases hs : sps gW gH zs m = []
      · exact signs_none gW gH a n c zs m pick w hTT h b hm hs
      · exact signs_moves gW gH a n c zs m pick w hTT h hp b hm hs
    · exact signs_short gW gH a n c zs who pick w hTT h 4 (by omega) (fun W1 h1 _ h3 => (Places_who gW gH a n c zs who W1 h1 h3 b (fun e => hw1 (Or.inl e)) (fun e => hw1 (Or.inr e))).mono (fun _ _ ⟨e1, e2⟩ => ⟨none, 0, e1, e2⟩))

end Go.Proofs.YtkmghlmniahgbaaDoor
