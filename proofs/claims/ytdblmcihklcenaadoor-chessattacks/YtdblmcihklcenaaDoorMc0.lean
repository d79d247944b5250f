/-
  Chess: the table of castlings. No conditions beyond those that each theorem bears.
-/
import Derived.Test.YtdblmcihklcenaaDoorMd
namespace Go.Proofs.YtdblmcihklcenaaDoor
open Go.RowKit Go.Shelf

/-- The table of castlings. -/
def cT : List Int := [0, 4, 7, 0, 4, 0, 1, 60, 63, 1, 60, 56]
def TabC (w : World) : Prop := ∀ i, i < 12 → w.cell? ⟨1, i, none⟩ = some (.int .i64 (cT.getD i 0))
theorem TabC.lt {w : World} (h : TabC w) : 1 < w.heap.size := World.block_lt_of_cell? w _ (h 0 (by omega))
theorem TabC.mono {w w' : World} (h : TabC w) (hb : Below w.heap.size w w') : TabC w' := fun i hi => (hb.cell (p := ⟨1, i, none⟩) h.lt).trans (h i hi)
theorem TabC.range {w : World} (h : TabC w) : w.rangeAt 1 0 (ivs cT) := by
  intro j v hv
  have hj : j < (ivs cT).length := (List.getElem?_eq_some_iff.1 hv).1
  rw [ivs_length] at hj
  have hj' : j < 12 := hj
  rw [Nat.zero_add, h j hj', ← hv]
  simp [ivs, List.getD, hj]
theorem size59 : (Tryd.prog.info? 59).map (·.size) = some 12 := by kernel_rfl
theorem size58 : (Tryd.prog.info? 58).map (·.size) = some 3 := by kernel_rfl
theorem cT_len : (ivs cT).length = 12 := rfl

theorem run_cas (k : Nat) (hk : k < 4) (w : World) : (Instr.index 59 (.agg (ivs cT).toArray) (.int .i64 k)).run Tryd.prog w = .ok (.agg #[.int .i64 (sdP k : Nat), .int .i64 (kgP k : Nat), .int .i64 (rkP k : Nat)]) w := by
  match k, hk with
  | 0, _ => simp [Instr.index, Tryd.underlying59, run_underlying, asIntOf, part, go_sem, ivs, cT, sdP, kgP, rkP]
  | 1, _ => simp [Instr.index, Tryd.underlying59, run_underlying, asIntOf, part, go_sem, ivs, cT, sdP, kgP, rkP]
  | 2, _ => simp [Instr.index, Tryd.underlying59, run_underlying, asIntOf, part, go_sem, ivs, cT, sdP, kgP, rkP]
  | 3, _ => simp [Instr.index, Tryd.underlying59, run_underlying, asIntOf, part, go_sem, ivs, cT, sdP, kgP, rkP]

theorem tab_and : ((List.range 16).all fun k => (List.range 4).all fun i => (bits BinOp.and IntKind.i64 (k : Int) (wrap64 (2 ^ i)) == 0) == !(bitB (k : Int) i)) = true := by decide +kernel
theorem bit_and {k i : Nat} (hk : k ≤ 15) (hi : i < 4) : (bits BinOp.and IntKind.i64 (k : Int) (wrap64 (2 ^ i)) == 0) = !(bitB (k : Int) i) :=
  beq_iff_eq.1 (allN (allN tab_and (show k < 16 by omega)) hi)
theorem kr_lt {i : Nat} (hi : i < 4) : kgP i < 64 ∧ rkP i < 64 ∧ sdP i ≤ 1 := by
  match i, hi with
  | 0, _ => decide
  | 1, _ => decide
  | 2, _ => decide
  | 3, _ => decide

def pci (b : Nat) (k : Int) : Int := if b = 0 then k else -k
theorem pci_6 (b : Nat) : pci b 6 = pc b 6 := rfl
theorem pci_4 (b : Nat) : pci b 4 = pc b 4 := rfl
theorem pci_1 (b : Nat) : pci b 1 = pc b 1 := rfl
theorem pieceOf_int (b : Nat) (k : Int) (h : 0 ≤ k ∧ k ≤ 6) (w : World) : Calls Tryd.prog 35 #[.int .i64 b, .int .i64 k] w fun e w' => e = .returned (.int .i64 (pci b k)) ∧ w' = w := by
  obtain ⟨n, rfl⟩ := Int.eq_ofNat_of_zero_le h.1
  exact pieceOf_any b n (by omega) w

end Go.Proofs.YtdblmcihklcenaaDoor
