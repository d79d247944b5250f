/-
  How many boards are so far from home. No conditions beyond those that each theorem bears.
-/
import Derived.Test.YticalbpohhpjaaaDoorRi
namespace Go.Proofs.YticalbpohhpjaaaDoor
open Go.RowKit

/-- How long a ring is. -/
def rlen (W H N k : Nat) : Nat := (rgs W H N k).2.length

/-- What the closure of Count has captured. -/
structure CnI (W H N steps fb sb nb : Nat) (k : Nat) (w : World) : Prop where
  far : w.heap[fb]? = some (.cells #[.int .i64 (k : Int)] 3 (0, 0))
  st : w.heap[sb]? = some (.cells #[.int .i64 (steps : Int)] 3 (0, 0))
  n : w.heap[nb]? = some (.cells #[.int .i64 ((if steps < k then rlen W H N steps else 0 : Nat) : Int)] 3 (0, 0))

def CnF (fb nb : Nat) (i : Nat) : Prop := i = fb ∨ i = nb

theorem one_cell {w : World} {b : Nat} {x : Value} (h : w.heap[b]? = some (.cells #[x] 3 (0, 0))) : w.cell? ⟨b, 0, none⟩ = some x ∧ w.frozen? ⟨b, 0, none⟩ = false := by
  simp [World.cell?, World.frozen?, h]

theorem one_set {w : World} {b : Nat} {x : Value} (h : w.heap[b]? = some (.cells #[x] 3 (0, 0))) (y : Value) : (w.setCell ⟨b, 0, none⟩ y).heap[b]? = some (.cells #[y] 3 (0, 0)) := by
  simp [World.setCell, Array.getElem?_modify, h]

theorem one_other {w : World} {b g : Nat} {o : Obj} (h : w.heap[b]? = some o) (hb : b ≠ g) (y : Value) : (w.setCell ⟨g, 0, none⟩ y).heap[b]? = some o := by
  simp [World.setCell, Array.getElem?_modify, h, show ¬ g = b from fun e => hb e.symm]

set_option maxHeartbeats 4000000 in
theorem count1_any (W H N steps fb sb nb k : Nat) (a : Option Addr) (c : Nat) (w : World) (h : CnI W H N steps fb sb nb k w) (h1 : fb ≠ sb) (h2 : fb ≠ nb) (h3 : sb ≠ nb) (hk : k ≤ 1000) (hl : rlen W H N k ≤ 1000) :
    Calls Tryd.prog 46 #[.slice a (rlen W H N k) c, .pointer (some ⟨fb, 0, none⟩), .pointer (some ⟨sb, 0, none⟩), .pointer (some ⟨nb, 0, none⟩)] w fun e w' => e = .returned (.bool (decide (k + 1 ≤ steps))) ∧ CnI W H N steps fb sb nb (k + 1) w' ∧ Keeps (CnF fb nb) w w' := by
  obtain ⟨f0, s0, n0⟩ := h
  obtain ⟨cf, ff⟩ := one_cell f0
  obtain ⟨cs, -⟩ := one_cell s0
  obtain ⟨cn, fn⟩ := one_cell n0
  have hlt := hl
  by_cases hks : k = steps
  · subst hks
    have hb : ((k : Int) == (k : Int)) = true := by simp
    have w2n : (w.setCell ⟨nb, 0, none⟩ (.int .i64 ((rlen W H N k : Nat) : Int))).heap[nb]? = some (.cells #[.int .i64 ((rlen W H N k : Nat) : Int)] 3 (0, 0)) := one_set n0 _
    have w2f := one_other f0 h2 (.int .i64 ((rlen W H N k : Nat) : Int))
    have w2s := one_other s0 h3 (.int .i64 ((rlen W H N k : Nat) : Int))
    have KK := Keeps.set1 w nb 0 (.int .i64 ((rlen W H N k : Nat) : Int))
    generalize hL : rlen W H N k = L at *
    have HL := hide hL
    go_enter Tryd.func46, Tryd.ntmps46
    go_upto_region 3 with fail
    generalize w.setCell ⟨nb, 0, none⟩ (.int .i64 (L : Int)) = w2 at *
    clear cf ff cs cn fn f0 s0 n0 hL
    obtain ⟨cf, ff⟩ := one_cell w2f
    obtain ⟨cs, -⟩ := one_cell w2s
    have w3f := one_set w2f (.int .i64 ((k : Int) + 1))
    have w3s := one_other w2s (fun e => h1 e.symm) (.int .i64 ((k : Int) + 1))
    have w3n := one_other w2n (fun e => h2 e.symm) (.int .i64 ((k : Int) + 1))
    have K3 := KK.mono (Y := CnF fb nb) (fun i _ e => .inr e) |>.trans ((Keeps.set1 w2 fb 0 (.int .i64 ((k : Int) + 1))).mono (Y := CnF fb nb) (fun i _ e => .inl e))
    go_upto_region 4 with fail
    generalize w2.setCell ⟨fb, 0, none⟩ (.int .i64 ((k : Int) + 1)) = w3 at *
    clear cf ff cs w2f w2s w2n KK
    obtain ⟨cf, -⟩ := one_cell w3f
    obtain ⟨cs, -⟩ := one_cell w3s
    have hle : ¬ (k : Int) + 1 ≤ (k : Int) := by omega
    have HR : Hid (CnI W H N k fb sb nb (k + 1) w3) := hide ⟨by rw [w3f]; simp, w3s, by rw [w3n, if_pos (by omega), HL.out]⟩
    have HK := hide K3
    clear w3f w3s w3n K3
    go_wp2_with fail
    go_ret
    exact ⟨ret_bool (by simp), HR.out, HK.out⟩
  · have hb : ((k : Int) == (steps : Int)) = false := by rw [beq_eq_false_iff_ne]; omega
    go_enter Tryd.func46, Tryd.ntmps46
    go_upto_region 3 with fail
    have w3f := one_set f0 (.int .i64 ((k : Int) + 1))
    have w3s := one_other s0 (fun e => h1 e.symm) (.int .i64 ((k : Int) + 1))
    have w3n := one_other n0 (fun e => h2 e.symm) (.int .i64 ((k : Int) + 1))
    have K3 := (Keeps.set1 w fb 0 (.int .i64 ((k : Int) + 1))).mono (Y := CnF fb nb) (fun i _ e => .inl e)
    have HR : Hid (∀ w3 : World, w3.heap[fb]? = some (.cells #[.int .i64 ((k : Int) + 1)] 3 (0, 0)) → w3.heap[sb]? = some (.cells #[.int .i64 (steps : Int)] 3 (0, 0)) → w3.heap[nb]? = some (.cells #[.int .i64 ((if steps < k then rlen W H N steps else 0 : Nat) : Int)] 3 (0, 0)) → CnI W H N steps fb sb nb (k + 1) w3) := hide (fun w3 a b c => ⟨by rw [a]; simp, b, by
      rw [c]
      by_cases h : steps < k
      · rw [if_pos h, if_pos (by omega)]
      · rw [if_neg h, if_neg (by omega)]⟩)
    generalize hL : ((if steps < k then rlen W H N steps else 0 : Nat) : Int) = L at *
    clear cn fn hL
    go_upto_region 4 with fail
    generalize w.setCell ⟨fb, 0, none⟩ (.int .i64 ((k : Int) + 1)) = w3 at *
    clear cf ff cs f0 s0 n0
    have HR3 := hide (HR.out w3 w3f w3s w3n)
    obtain ⟨cf, -⟩ := one_cell w3f
    obtain ⟨cs, -⟩ := one_cell w3s
    have HK := hide K3
    clear w3f w3s w3n K3 HR
    by_cases hle : (k : Int) + 1 ≤ (steps : Int)
    · go_wp2_with fail
      go_ret
      exact ⟨ret_bool (by simp; omega), HR3.out, HK.out⟩
    · go_wp2_with fail
      go_ret
      exact ⟨ret_bool (by simp; omega), HR3.out, HK.out⟩

end Go.Proofs.YticalbpohhpjaaaDoor
