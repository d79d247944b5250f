/-
  Chess: the steps of a piece from a place on, counted; the tables. No conditions beyond those that each theorem bears.
-/
import Derived.Test.YtdblmcihklcenaaDoorCs
import Derived.Test.YtdblmcihklcenaaDoorRo
namespace Go.Proofs.YtdblmcihklcenaaDoor
open Go.RowKit Go.Shelf

/-- Which step leads to a place. -/
def mz (t i : Nat) (x y : Int) : Nat := ((List.range 9).takeWhile fun j => !(rX t i j == x && rY t i j == y)).length
theorem tab_mz : ((List.range 64).all fun t => (List.range 16).all fun i => (List.range 9).all fun j => Nat.beq (mz t i (rX t i j) (rY t i j)) j) = true := by decide +kernel
theorem mz_at {t i j : Nat} (ht : t < 64) (hi : i < 16) (hj : j < 9) : mz t i (rX t i j) (rY t i j) = j := Nat.eq_of_beq_eq_true (allN (allN (all64 tab_mz ht) hi) hj)
theorem rX_succ (t i j : Nat) : rX t i j + sX i = rX t i (j + 1) := by
  unfold rX
  rw [Int.natCast_succ, Int.add_mul ((j : Int) + 1) 1, Int.one_mul]; omega
theorem rY_succ (t i j : Nat) : rY t i j + sY i = rY t i (j + 1) := by
  unfold rY
  rw [Int.natCast_succ, Int.add_mul ((j : Int) + 1) 1, Int.one_mul]; omega
theorem rX_zero (t i : Nat) : ((t % 8 : Nat) : Int) + sX i = rX t i 0 := by unfold rX; simp
theorem rY_zero (t i : Nat) : ((t / 8 : Nat) : Int) + sY i = rY t i 0 := by unfold rY; simp
theorem tab_bd : ((List.range 16).all fun i => decide (-2 ≤ sX i ∧ sX i ≤ 2 ∧ -2 ≤ sY i ∧ sY i ≤ 2)) = true := by decide +kernel
theorem sXY_bd {i : Nat} (hi : i < 16) : -2 ≤ sX i ∧ sX i ≤ 2 ∧ -2 ≤ sY i ∧ sY i ≤ 2 := by simpa using allN tab_bd hi
theorem rXY_bd {t i j : Nat} (ht : t < 64) (hi : i < 16) (hj : j ≤ rl t i) : -2 ≤ rX t i j ∧ rX t i j ≤ 9 ∧ -2 ≤ rY t i j ∧ rY t i j ≤ 9 := by
  have hb := sXY_bd hi
  cases j with
  | zero => rw [← rX_zero, ← rY_zero]; omega
  | succ j =>
    rw [← rX_succ, ← rY_succ]
    have h := ins_iff (j := j) ht hi (by have := rl_le ht hi; omega)
    rw [decide_eq_true (by omega : j < rl t i)] at h
    simp only [ins, Bool.and_eq_true, decide_eq_true_eq] at h
    omega

/-- The table of steps. -/
def dS : List Int := [1, 0, 0, 1, -1, 0, 0, -1, 1, 1, -1, 1, 1, -1, -1, -1, 1, 2, 2, 1, 2, -1, 1, -2, -1, -2, -2, -1, -2, 1, -1, 2]
theorem tab_dS : ((List.range 16).all fun i => decide (dS.getD (i * 2) 0 = sX i ∧ dS.getD (i * 2 + 1) 0 = sY i)) = true := by decide +kernel
theorem dS_at {i : Nat} (hi : i < 16) : dS.getD (i * 2) 0 = sX i ∧ dS.getD (i * 2 + 1) 0 = sY i := by simpa using allN tab_dS hi

def TabS (w : World) : Prop := ∀ i, i < 32 → w.cell? ⟨2, i, none⟩ = some (.int .i64 (dS.getD i 0))
theorem TabS.lt {w : World} (h : TabS w) : 2 < w.heap.size := World.block_lt_of_cell? w _ (h 0 (by omega))
theorem TabS.mono {w w' : World} (h : TabS w) (hb : Below w.heap.size w w') : TabS w' := fun i hi => (hb.cell (p := ⟨2, i, none⟩) h.lt).trans (h i hi)
theorem TabS.keeps {X : Nat → Prop} {w w' : World} (h : TabS w) (hk : Keeps X w w') (hX : ¬ X 2) : TabS w' := fun i hi => hk.cell (h i hi) hX
theorem TabS.at {w : World} (h : TabS w) {i : Nat} (hi : i < 16) : w.cell? ⟨2, i * 2, none⟩ = some (.int .i64 (sX i)) ∧ w.cell? ⟨2, i * 2 + 1, none⟩ = some (.int .i64 (sY i)) := by
  obtain ⟨h1, h2⟩ := dS_at hi
  exact ⟨by rw [← h1]; exact h _ (by omega), by rw [← h2]; exact h _ (by omega)⟩

/-- What is handed out for a place. -/
def RcG (q : Nat) (args : Array Value) (_ : World) : Prop := args = #[.int .i64 (q : Nat)]

/-- What reach has captured, and the table. -/
structure RcR (xb fb eb lb : Nat) (x : Int) (t : Nat) (a : Option Addr) (c : Nat) (Z : List Int) (W : World) : Prop where
  x : W.cell? ⟨xb, 0, none⟩ = some (.int .i64 x)
  f : W.cell? ⟨fb, 0, none⟩ = some (.int .i64 t)
  e : W.cell? ⟨eb, 0, none⟩ = some (.func (.func 33) #[] #[.pointer (some ⟨lb, 0, none⟩)])
  l : W.cell? ⟨lb, 0, none⟩ = some (.slice a 64 c)
  z : Rd W a 64 c Z
  s : TabS W

def RcT (xb fb eb lb : Nat) (a : Option Addr) (k : Nat) : Prop := k = 2 ∨ k = xb ∨ k = fb ∨ k = eb ∨ k = lb ∨ ∃ off, a = some ⟨k, off, none⟩

theorem RcR.keeps {xb fb eb lb : Nat} {x : Int} {t : Nat} {a : Option Addr} {c : Nat} {Z : List Int} {X : Nat → Prop} {W W' : World} (h : RcR xb fb eb lb x t a c Z W) (hk : Keeps X W W') (hX : ∀ k, RcT xb fb eb lb a k → ¬ X k) : RcR xb fb eb lb x t a c Z W' :=
  ⟨hk.cell h.x (hX xb (by unfold RcT; simp)), hk.cell h.f (hX fb (by unfold RcT; simp)), hk.cell h.e (hX eb (by unfold RcT; simp)), hk.cell h.l (hX lb (by unfold RcT; simp)),
    h.z.keeps hk (fun b off e => hX b (by unfold RcT; simp [e])), h.s.keeps hk (hX 2 (by unfold RcT; simp))⟩

theorem empty1_any (lb : Nat) (a : Option Addr) (c : Nat) (Z : List Int) (q : Nat) (hq : q < 64) (w : World) (hl : w.cell? ⟨lb, 0, none⟩ = some (.slice a 64 c)) (hz : Rd w a 64 c Z) :
    Calls Tryd.prog 33 #[.int .i64 (q : Nat), .pointer (some ⟨lb, 0, none⟩)] w fun e w' => e = .returned (.bool (zg Z q == 0)) ∧ w' = w := by
  obtain ⟨b, off, rfl, hc⟩ := hz.cells (by omega)
  have hz0 := hc q hq
  have hc64 := hz.cap
  have hmx := hz.max
  unfold maxLen at hmx
  unfold zg
  clear hc hz
  generalize Z.getD q 0 = z at *
  go_enter Tryd.func33, Tryd.ntmps33
  go_wp2
  go_ret
  exact ⟨rfl, rfl⟩

/-- The places of the first steps. -/
def rcU (Z : List Int) (x : Int) (t m : Nat) : List Nat := ((List.range m).map (sB x + ·)).flatMap fun i => vis Z (far x) (R t i)
theorem rcU_zero (Z : List Int) (x : Int) (t : Nat) : rcU Z x t 0 = [] := rfl
theorem rcU_all (Z : List Int) (x : Int) (t : Nat) : rcU Z x t (sE x - sB x) = rch Z x t := rfl
theorem rcU_succ (Z : List Int) (x : Int) (t m : Nat) : rcU Z x t (m + 1) = rcU Z x t m ++ vis Z (far x) (R t (sB x + m)) := by
  unfold rcU
  rw [List.range_succ, List.map_append, List.flatMap_append]; simp
theorem rcU_pre (Z : List Int) (x : Int) (t : Nat) {m n : Nat} (h : m ≤ n) : rcU Z x t m <+: rcU Z x t n := by
  induction n with
  | zero => obtain rfl : m = 0 := by omega
            exact List.prefix_refl _
  | succ n ih =>
    by_cases e : m = n + 1
    · subst e; exact List.prefix_refl _
    · refine (ih (by omega)).trans ?_
      rw [rcU_succ]; exact List.prefix_append _ _

theorem R_take_succ {t i j : Nat} (hj : j < rl t i) : (R t i).take (j + 1) = (R t i).take j ++ [rP t i j] := by
  have h : j < (R t i).length := by rw [R_len]; exact hj
  rw [List.take_succ_eq_append_getElem h]
  congr 1
  have := R_get hj
  rw [List.getElem?_eq_getElem h] at this
  simpa using this

theorem R_drop {t i j : Nat} (hj : j < rl t i) : (R t i).drop j = rP t i j :: (R t i).drop (j + 1) := by
  have h : j < (R t i).length := by rw [R_len]; exact hj
  rw [List.drop_eq_getElem_cons h]
  congr 1
  have := R_get hj
  rw [List.getElem?_eq_getElem h] at this
  simpa using this

/-- All so far can be gone over. -/
def Fre (Z : List Int) (x : Int) (t i j : Nat) : Prop := ∀ a ∈ (R t i).take j, far x = true ∧ zg Z a = 0

theorem vis_on {Z : List Int} {x : Int} {t i j : Nat} (hF : Fre Z x t i j) (hj : j < rl t i) : (R t i).take j ++ [rP t i j] <+: vis Z (far x) (R t i) := by
  rw [vis_take Z (far x) j _ hF, R_drop hj]
  simp only [vis]
  rw [List.prefix_append_right_inj]
  exact ⟨_, rfl⟩
theorem vis_stop {Z : List Int} {x : Int} {t i j : Nat} (hF : Fre Z x t i j) (hj : j < rl t i) (h : ¬ (far x = true ∧ zg Z (rP t i j) = 0)) : vis Z (far x) (R t i) = (R t i).take j ++ [rP t i j] := by
  rw [vis_take Z (far x) j _ hF, R_drop hj]
  simp only [vis]
  rw [if_neg h]
theorem vis_end {Z : List Int} {x : Int} {t i : Nat} (hF : Fre Z x t i (rl t i)) : vis Z (far x) (R t i) = (R t i).take (rl t i) := by
  rw [vis_take Z (far x) _ _ hF, List.drop_eq_nil_of_le (by rw [R_len]; omega)]
  simp [vis]
theorem Fre_succ {Z : List Int} {x : Int} {t i j : Nat} (hF : Fre Z x t i j) (hj : j < rl t i) (h : far x = true ∧ zg Z (rP t i j) = 0) : Fre Z x t i (j + 1) := by
  intro a ha
  rw [R_take_succ hj, List.mem_append, List.mem_singleton] at ha
  rcases ha with ha | rfl
  · exact hF a ha
  · exact h

end Go.Proofs.YtdblmcihklcenaaDoor
