/-
  Chess: which positions may be, said. No conditions beyond those that each theorem bears.
-/
import Derived.Test.YtdblmcihklcenaaDoorCl
import Derived.Test.YtdblmcihklcenaaDoorAo
namespace Go.Proofs.YtdblmcihklcenaaDoor
open Go.RowKit

/-- Whether something is so. -/
noncomputable def dB (p : Prop) : Bool := @decide p (Classical.propDecidable _)
theorem dB_t {p : Prop} (h : p) : dB p = true := @decide_eq_true p (Classical.propDecidable _) h
theorem dB_f {p : Prop} (h : ¬ p) : dB p = false := @decide_eq_false p (Classical.propDecidable _) h
theorem dB_iff {p : Prop} : dB p = true ↔ p := @decide_eq_true_iff p (Classical.propDecidable _)

/-- How often a number stands on the first places. -/
def cnt (Z : List Int) (x : Int) (n : Nat) : Nat := ((List.range n).filter fun i => zg Z i == x).length
theorem cnt_zero (Z : List Int) (x : Int) : cnt Z x 0 = 0 := rfl
theorem cnt_succ (Z : List Int) (x : Int) (n : Nat) : cnt Z x (n + 1) = cnt Z x n + (if zg Z n = x then 1 else 0) := by
  unfold cnt
  rw [List.range_succ, List.filter_append, List.length_append]
  by_cases h : zg Z n = x <;> simp [h]
theorem cnt_le (Z : List Int) (x : Int) (n : Nat) : cnt Z x n ≤ n := Nat.le_trans (List.length_filter_le _ _) (by simp)

/-- A place as it may be. -/
def okS (Z : List Int) (i : Nat) : Prop := -6 ≤ zg Z i ∧ zg Z i ≤ 6 ∧ ((zg Z i).natAbs = 1 → 8 ≤ i ∧ i < 56)

/-- Pieces as they may stand. -/
def Std (Z : List Int) : Prop := Z.length = 64 ∧ (∀ i, i < 64 → okS Z i) ∧ cnt Z 6 64 = 1 ∧ cnt Z (-6) 64 = 1

theorem Std.pz {Z : List Int} (h : Std Z) : Pz Z := by
  refine ⟨h.1, fun q => ?_⟩
  by_cases hq : q < 64
  · exact ⟨(h.2.1 q hq).1, (h.2.1 q hq).2.1⟩
  · have : zg Z q = 0 := by unfold zg; rw [List.getD_eq_getElem?_getD, List.getElem?_eq_none (by have := h.1; omega)]; rfl
    omega

theorem fst_ex (Z : List Int) (x : Int) : ∀ n, (∃ j, j < n ∧ zg Z j = x) → ∃ k, k < n ∧ zg Z k = x ∧ ∀ j, j < k → zg Z j ≠ x := by
  intro n
  induction n with
  | zero => rintro ⟨j, hj, _⟩; omega
  | succ n ih =>
    intro hex
    by_cases hn : ∃ j, j < n ∧ zg Z j = x
    · obtain ⟨k, h1, h2⟩ := ih hn
      exact ⟨k, by omega, h2⟩
    · obtain ⟨j, hj, hz⟩ := hex
      refine ⟨j, hj, hz, fun i hi e => hn ⟨i, by omega, e⟩⟩

/-- The place of a number. -/
noncomputable def kg (Z : List Int) (x : Int) : Nat := @dite Nat (∃ k, Fst Z x k) (Classical.propDecidable _) (fun h => Classical.choose h) (fun _ => 0)

theorem kg_fst {Z : List Int} {x : Int} (h : cnt Z x 64 = 1) : Fst Z x (kg Z x) := by
  have hex : ∃ j, j < 64 ∧ zg Z j = x := by
    unfold cnt at h
    have : 0 < ((List.range 64).filter fun i => zg Z i == x).length := by omega
    obtain ⟨j, hj⟩ := List.exists_mem_of_length_pos this
    rw [List.mem_filter, List.mem_range] at hj
    exact ⟨j, hj.1, by simpa using hj.2⟩
  have h2 : ∃ k, Fst Z x k := fst_ex Z x 64 hex
  unfold kg
  rw [dif_pos h2]
  exact Classical.choose_spec h2

theorem pc6 (s : Nat) : pc s 6 = if s = 0 then 6 else -6 := rfl

theorem Std.king {Z : List Int} (h : Std Z) (s : Nat) : Fst Z (pc s 6) (kg Z (pc s 6)) := by
  rw [pc6]
  by_cases hs : s = 0
  · rw [if_pos hs]; exact kg_fst h.2.2.1
  · rw [if_neg hs]; exact kg_fst h.2.2.2

/-- Is a side's king attacked? -/
noncomputable def chk (Z : List Int) (s : Nat) : Bool := decide (atL Z (kg Z (pc s 6)) (1 - s) ≠ [])

theorem chk_atk {Z : List Int} (h : Std Z) {s : Nat} (hs : s ≤ 1) : decide (atk Z (kg Z (pc s 6)) (1 - s) ≠ []) = chk Z s := by
  unfold chk
  have hl := atk_len h.pz (b := 1 - s) (h.king s).1 (by omega)
  rw [decide_eq_decide]
  refine ⟨fun h1 h2 => h1 ?_, fun h1 h2 => h1 ?_⟩
  · rw [h2] at hl; exact List.eq_nil_of_length_eq_zero hl
  · rw [h2] at hl; exact List.eq_nil_of_length_eq_zero hl.symm

theorem inCheck_std (a : Option Addr) (c : Nat) (Z : List Int) (s : Nat) (hs : s ≤ 1) (hS : Std Z) (w : World) (hz : Rd w a 64 c Z) (hT : TabS w) :
    Calls Tryd.prog 18 #[.slice a 64 c, .int .i64 s] w fun e w' => e = .returned (.bool (chk Z s)) ∧ Below w.heap.size w w' := by
  rw [← chk_atk hS hs]
  exact inCheck_any a c Z s _ hs (hS.king s) w hz hT

theorem InCheck_std (a : Option Addr) (c : Nat) (Z : List Int) (s : Nat) (hs : s ≤ 1) (hS : Std Z) (w : World) (hz : Rd w a 64 c Z) :
    Calls Tryd.prog 10 #[.slice a 64 c, .int .i64 s] w fun e w' => e = .returned (.bool (chk Z s)) ∧ Below w.heap.size w w' :=
  InCheckR_any a c Z s _ hs (hS.king s) hS.pz w hz

/-- A right to castle. -/
def bitB (k : Int) (i : Nat) : Bool := decide (k.toNat / 2 ^ i % 2 = 1)

/-- Kings and rooks where the rights need them. -/
def kgP (i : Nat) : Nat := if i < 2 then 4 else 60
def rkP (i : Nat) : Nat := if i = 0 then 7 else if i = 1 then 0 else if i = 2 then 63 else 56
def sdP (i : Nat) : Nat := if i < 2 then 0 else 1
def cas1 (Z : List Int) (k : Int) (i : Nat) : Prop := bitB k i = true → zg Z (kgP i) = pc (sdP i) 6 ∧ zg Z (rkP i) = pc (sdP i) 4
def Cas (Z : List Int) (k : Int) : Prop := 0 ≤ k ∧ k ≤ 15 ∧ ∀ i, i < 4 → cas1 Z k i

/-- A place that a pawn may just have gone over. -/
def Pas (Z : List Int) (t e : Int) : Prop := e = -1 ∨ (t = 0 ∧ 40 ≤ e ∧ e ≤ 47 ∧ zg Z e.toNat = 0 ∧ zg Z (e.toNat - 8) = -1 ∧ zg Z (e.toNat + 8) = 0) ∨ (t = 1 ∧ 16 ≤ e ∧ e ≤ 23 ∧ zg Z e.toNat = 0 ∧ zg Z (e.toNat + 8) = 1 ∧ zg Z (e.toNat - 8) = 0)

/-- A position that may be. -/
def MayC (Z : List Int) (t k e h f : Int) : Prop := Std Z ∧ (t = 0 ∨ t = 1) ∧ Cas Z k ∧ Pas Z t e ∧ 0 ≤ h ∧ h ≤ 999 ∧ 1 ≤ f ∧ f ≤ 999 ∧ chk Z (1 - t).toNat = false

end Go.Proofs.YtdblmcihklcenaaDoor
