/-
  'gameroomlaw.DeckOrders' returns true for every n and in, and changes nothing that was there.
-/
import Derived.Test.YtdipbbcggccgcaaRefOrder
namespace Go.Proofs.Ytdipbbcggccgcaa
open Go.RowKit

set_option maxHeartbeats 400000 in
theorem orders_any (n : Int) (b : Bool) (w : World) :
    Calls Try.prog 5 #[.int .i64 n, .bool b] w fun e w' => e = .returned (.bool true) ∧ Below w.heap.size w w' := by
  by_cases h : n < 0 ∨ 104 < n ∨ n % 2 = 1
  · by_cases h1 : n < 0
    · go_enter Try.func5, Try.ntmps5
      go_wp2_with fail
      refine (Order_no _ _ _ h).mono ?_
      rintro e w' ⟨rfl, rfl⟩
      go_wp2_with fail
      go_ret
      exact ⟨rfl, Below.refl _ _⟩
    · by_cases h2 : 104 < n
      · go_enter Try.func5, Try.ntmps5
        go_wp2_with fail
        refine (Order_no _ _ _ h).mono ?_
        rintro e w' ⟨rfl, rfl⟩
        go_wp2_with fail
        go_ret
        exact ⟨rfl, Below.refl _ _⟩
      · have h3 : (n % 2 == 1) = true := by simp; omega
        go_enter Try.func5, Try.ntmps5
        go_wp2_with fail
        refine (Order_no _ _ _ h).mono ?_
        rintro e w' ⟨rfl, rfl⟩
        go_wp2_with fail
        go_ret
        exact ⟨rfl, Below.refl _ _⟩
  · obtain ⟨m, rfl⟩ := Int.eq_ofNat_of_zero_le (show 0 ≤ n by omega)
    have h1 : ¬ (m : Int) < 0 := by omega
    have h2 : ¬ 104 < (m : Int) := by omega
    have h3 : ((m : Int) % 2 == 1) = false := by simp; omega
    have hev : m % 2 = 0 := by omega
    have hn : m ≤ 104 := by omega
    clear h
    go_enter Try.func5, Try.ntmps5
    go_wp2_with fail
    refine (Order_yes m b _ hev hn).mono ?_
    rintro e w1 ⟨rfl, hB1⟩
    go_wp2_with fail
    refine (RiffleOrder_any m b _ hev hn).mono ?_
    rintro e w2 ⟨rfl, hB2⟩
    go_wp2_with fail
    go_ret
    exact ⟨ret_bool (by simp), hB1.trans (hB2.mono hB1.size)⟩

end Go.Proofs.Ytdipbbcggccgcaa
