/-
  What 'allOff' of a side answers. No conditions beyond those that each theorem bears.
-/
import Derived.Test.YtmboikpcbkiepaaSdF
namespace Go.Proofs.Ytmboikpcbkiepaa
open Go.RowKit

/-- Are all men off? -/
def offB (S : List Int) : Bool := decide (S.take 26 = List.replicate 26 0)

set_option maxRecDepth 100000 in
set_option maxHeartbeats 4000000 in
theorem allOff_any (S : List Int) (hS : S.length = 52) (w : World) :
    Calls Try.prog 61 #[.agg (ivs S).toArray] w fun e w' => e = .returned (.bool (offB S)) ∧ Below w.heap.size w w' := by
  have K0 : Blk (w.alloc (Obj.cells (ivs S).toArray 54)) w.heap.size 54 S := Blk.new w 54 S _ rfl
  have RS := hide K0.range26
  have B1 := hide ((Below.refl w.heap.size w).alloc (Nat.le_refl _) (Obj.cells (ivs S).toArray 54))
  clear K0
  go_enter Try.func61, Try.ntmps61
  go_wp2_with (first
    | refine wpList_load_mid rfl 52 (.tmp 3) rfl (w.heap.size) 0 rfl (ivs (S.take 26)) _ RS.out Try.underlying52 rfl (by rw [ivs_length, List.length_take, hS]; exact size52) ?_
    | refine wpList_eq26 rfl (.tmp 4) (.tmp 5) rfl (S.take 26) (List.replicate 26 0) (by rw [List.length_take]; omega) rfl rfl rfl ?_)
  go_ret
  exact ⟨rfl, B1.out⟩

end Go.Proofs.Ytmboikpcbkiepaa
