/-
  Chess: what pieces are worth; how many there are of each kind. No conditions beyond those that each theorem bears.
-/
import Derived.Test.YtdblmcihklcenaaDoorMd
namespace Go.Proofs.YtdblmcihklcenaaDoor
open Go.RowKit

/-- The table of worths. -/
def wT : List Int := [0, 1, 3, 3, 5, 9, 0]
def wo (j : Nat) : Int := wT.getD j 0
def wv (x : Int) : Int := sg x * wo x.natAbs
def mS (Z : List Int) : Nat → Int
  | 0 => 0
  | n + 1 => mS Z n + wv (zg Z n)

theorem mS_zero (Z : List Int) : mS Z 0 = 0 := rfl
theorem mS_succ (Z : List Int) (n : Nat) : mS Z (n + 1) = mS Z n + wv (zg Z n) := rfl

theorem wo_bd {j : Nat} (hj : j ≤ 6) : 0 ≤ wo j ∧ wo j ≤ 9 := by
  have : j = 0 ∨ j = 1 ∨ j = 2 ∨ j = 3 ∨ j = 4 ∨ j = 5 ∨ j = 6 := by omega
  rcases this with rfl | rfl | rfl | rfl | rfl | rfl | rfl <;> decide
theorem wv_pos {x : Int} (h : 0 < x) : wv x = wo x.natAbs := by unfold wv sg; rw [if_pos h, Int.one_mul]
theorem wv_neg {x : Int} (h : ¬ 0 < x) : wv x = -(wo x.natAbs) := by
  unfold wv sg
  rw [if_neg h]
  by_cases h2 : x < 0
  · rw [if_pos h2]; omega
  · have : x = 0 := by omega
    subst this; decide
theorem wv_bd {x : Int} (h1 : -6 ≤ x) (h2 : x ≤ 6) : -9 ≤ wv x ∧ wv x ≤ 9 := by
  have := wo_bd (j := x.natAbs) (by omega)
  by_cases h : 0 < x
  · rw [wv_pos h]; omega
  · rw [wv_neg h]; omega
theorem mS_bd {Z : List Int} (hz : Pz Z) (n : Nat) : -(9 * (n : Int)) ≤ mS Z n ∧ mS Z n ≤ 9 * (n : Int) := by
  induction n with
  | zero => simp [mS]
  | succ n ih =>
    have := wv_bd (hz.2 n).1 (hz.2 n).2
    simp only [mS]
    omega

def TabW (w : World) : Prop := ∀ i, i < 7 → w.cell? ⟨0, i, none⟩ = some (.int .i64 (wo i))
theorem TabW.lt {w : World} (h : TabW w) : 0 < w.heap.size := World.block_lt_of_cell? w _ (h 0 (by omega))
theorem TabW.mono {w w' : World} (h : TabW w) (hb : Below w.heap.size w w') : TabW w' := fun i hi => (hb.cell (p := ⟨0, i, none⟩) h.lt).trans (h i hi)

/-- How many places a question is answered yes. -/
def nu (p : Nat → Bool) (n : Nat) : Nat := ((List.range n).filter p).length
theorem nu_zero (p : Nat → Bool) : nu p 0 = 0 := rfl
theorem nu_succ (p : Nat → Bool) (n : Nat) : nu p (n + 1) = nu p n + (if p n = true then 1 else 0) := by
  unfold nu
  rw [List.range_succ, List.filter_append, List.length_append]
  by_cases h : p n = true <;> simp [h]
theorem nu_le (p : Nat → Bool) (n : Nat) : nu p n ≤ n := Nat.le_trans (List.length_filter_le _ _) (by simp)

def kc (Z : List Int) (j n : Nat) : Nat := nu (fun i => (zg Z i).natAbs == j) n
def shc (Z : List Int) (q n : Nat) : Nat := nu (fun i => (zg Z i).natAbs == 3 && (i / 8 + i % 8) % 2 == q) n
theorem kc_succ (Z : List Int) (j n : Nat) : kc Z j (n + 1) = kc Z j n + (if (zg Z n).natAbs = j then 1 else 0) := by
  unfold kc; rw [nu_succ]; simp
theorem shc_succ (Z : List Int) (q n : Nat) : shc Z q (n + 1) = shc Z q n + (if (zg Z n).natAbs = 3 ∧ (n / 8 + n % 8) % 2 = q then 1 else 0) := by
  unfold shc; rw [nu_succ]; simp
theorem kc_le (Z : List Int) (j n : Nat) : kc Z j n ≤ n := nu_le _ n
theorem shc_le (Z : List Int) (q n : Nat) : shc Z q n ≤ n := nu_le _ n

/-- Neither can ever give mate. -/
def tl (Z : List Int) : Bool := decide (kc Z 1 64 + kc Z 4 64 + kc Z 5 64 = 0) && (decide (kc Z 2 64 + kc Z 3 64 ≤ 1) || (decide (kc Z 2 64 = 0) && (decide (shc Z 1 64 = 0) || decide (shc Z 0 64 = 0))))

def kdL (Z : List Int) (n : Nat) : List Int := (List.range 7).map fun j : Nat => ((kc Z j n : Nat) : Int)
theorem kdL_len (Z : List Int) (n : Nat) : (kdL Z n).length = 7 := by simp [kdL]
theorem kdL_at (Z : List Int) (n : Nat) {j : Nat} (hj : j < 7) : (kdL Z n).getD j 0 = ((kc Z j n : Nat) : Int) := by
  simp [kdL, List.getD, hj]
theorem kdL_g (Z : List Int) (n : Nat) {j : Nat} (hj : j < 7) : (kdL Z n)[j]? = some ((kc Z j n : Nat) : Int) := by
  simp [kdL, hj]
theorem kdL_zero (Z : List Int) : kdL Z 0 = List.replicate 7 0 := by
  simp [kdL, kc, nu_zero, List.range_succ]
theorem kdL_succ {Z : List Int} {n x : Nat} (hx : (zg Z n).natAbs = x) : (kdL Z n).set x ((kdL Z n).getD x 0 + 1) = kdL Z (n + 1) := by
  apply List.ext_getElem?
  intro j
  by_cases hj : j < 7
  · rw [kdL_g Z (n + 1) hj, kc_succ]
    by_cases e : x = j
    · subst e
      rw [List.getElem?_set_self (by rw [kdL_len]; exact hj), kdL_at Z n hj, if_pos hx]
      rfl
    · rw [List.getElem?_set_ne e, kdL_g Z n hj, if_neg (by omega)]
      rfl
  · rw [List.getElem?_eq_none (by rw [List.length_set, kdL_len]; omega), List.getElem?_eq_none (by rw [kdL_len]; omega)]

def shL (Z : List Int) (n : Nat) : List Int := [((shc Z 0 n : Nat) : Int), ((shc Z 1 n : Nat) : Int)]
theorem shL_no {Z : List Int} {n : Nat} (h : (zg Z n).natAbs ≠ 3) : shL Z (n + 1) = shL Z n := by
  unfold shL; rw [shc_succ, shc_succ, if_neg (fun e => h e.1), if_neg (fun e => h e.1)]; rfl
theorem shL_yes {Z : List Int} {n q : Nat} (h : (zg Z n).natAbs = 3) (hq : (n / 8 + n % 8) % 2 = q) (hq2 : q < 2) : (shL Z n).set q ((shL Z n).getD q 0 + 1) = shL Z (n + 1) := by
  have : q = 0 ∨ q = 1 := by omega
  unfold shL
  rcases this with rfl | rfl
  · rw [shc_succ, shc_succ, if_pos ⟨h, hq⟩, if_neg (fun e => by omega)]; rfl
  · rw [shc_succ, shc_succ, if_neg (fun e => by omega), if_pos ⟨h, hq⟩]; rfl
theorem shL_0 (Z : List Int) (n : Nat) : (shL Z n).getD 0 0 = ((shc Z 0 n : Nat) : Int) := rfl
theorem shL_1 (Z : List Int) (n : Nat) : (shL Z n).getD 1 0 = ((shc Z 1 n : Nat) : Int) := rfl
theorem shL_len (Z : List Int) (n : Nat) : (shL Z n).length = 2 := rfl
theorem shL_zero (Z : List Int) : shL Z 0 = [0, 0] := rfl

end Go.Proofs.YtdblmcihklcenaaDoor
