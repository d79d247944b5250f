/-
  The two tables of six places. No conditions beyond those that each theorem bears.
-/
import Derived.Test.YticalbpohhpjaaaDoorTc
import Derived.Test.YticalbpohhpjaaaDoorS23
import Derived.Test.YticalbpohhpjaaaDoorO23
import Derived.Test.YticalbpohhpjaaaDoorS32
import Derived.Test.YticalbpohhpjaaaDoorO32
namespace Go.Proofs.YticalbpohhpjaaaDoor
open Go.RowKit

theorem tab23 : TabOK 2 3 6 22 tb23 := ⟨rt23, st23, wy23, pw23, ln23.1, ln23.2.2, hm23, by omega⟩
theorem tab32 : TabOK 3 2 6 22 tb32 := ⟨rt32, st32, wy32, pw32, ln32.1, ln32.2.2, hm32, by omega⟩

theorem rlen_tab {W H : Nat} {t : List (List Nat)} (h : TabOK W H 6 22 t) (k : Nat) (hk : k < 22) : rlen W H 6 k = (t.getD k []).length := by
  unfold rlen
  rw [h.ring k (by omega)]
  simp [ringT]

/-- How many boards there are in the first so many rings. -/
def rsum (W H : Nat) (k : Nat) : Nat := ((List.range k).map (rlen W H 6)).sum

theorem rsum_succ (W H k : Nat) : rsum W H (k + 1) = rsum W H k + rlen W H 6 k := by simp [rsum, List.range_succ]

theorem rsum_tab {W H : Nat} {t : List (List Nat)} (h : TabOK W H 6 22 t) (hs : ((List.range 22).map fun k => (t.getD k []).length).sum = 360) : rsum W H 22 = 360 := by
  have e : (List.range 22).map (rlen W H 6) = (List.range 22).map fun k => (t.getD k []).length := List.map_congr_left fun k hk => rlen_tab h k (List.mem_range.1 hk)
  unfold rsum
  rw [e]
  exact hs

/-- The two ways to lay six places. -/
def Six (W H : Nat) : Prop := W = 2 ∧ H = 3 ∨ W = 3 ∧ H = 2

theorem six_ends {W H : Nat} (h : Six W H) : Ends W H 6 22 ∧ rsum W H 22 = 360 := by
  rcases h with ⟨rfl, rfl⟩ | ⟨rfl, rfl⟩
  · exact ⟨tab23.ends nl23, rsum_tab tab23 ln23.2.1⟩
  · exact ⟨tab32.ends nl32, rsum_tab tab32 ln32.2.1⟩

theorem six_known {W H k : Nat} (h : Six W H) (hk : k < 720) (hG : Gt 6 ((nthSt 6 k 6).1, (ix (nthSt 6 k 6).1 0).toNat)) :
    (canZ (nthSt 6 k 6).1 W 6 (ix (nthSt 6 k 6).1 0).toNat = true ∧ ∃ r l, r < 22 ∧ Found W H 6 r (nthSt 6 k 6).1 ∧ Pth W H 6 (rgs W H 6 r).1 r (nthSt 6 k 6).1 (ix (nthSt 6 k 6).1 0).toNat l ∧ lst W (nthSt 6 k 6).1 6 (ix (nthSt 6 k 6).1 0).toNat 6 ≤ r ∧ r % 2 = gway W H (ix (nthSt 6 k 6).1 0).toNat % 2) ∨
    (canZ (nthSt 6 k 6).1 W 6 (ix (nthSt 6 k 6).1 0).toNat = false ∧ Found W H 6 22 (nthSt 6 k 6).1 ∧ lk (rgs W H 6 22).1 (pad6 (nthSt 6 k 6).1) = none) := by
  rcases h with ⟨rfl, rfl⟩ | ⟨rfl, rfl⟩
  · exact order_known tab23 nl23 (by omega) rfl (by omega) (od23 k hk) hG
  · exact order_known tab32 nl32 (by omega) rfl (by omega) (od32 k hk) hG

end Go.Proofs.YticalbpohhpjaaaDoor
