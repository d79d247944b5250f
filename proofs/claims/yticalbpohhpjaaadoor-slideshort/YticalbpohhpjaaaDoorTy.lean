/-
  A tray in its block; a step on a board. No conditions beyond those that each theorem bears.
-/
import Derived.Test.YticalbpohhpjaaaDoorDoor
import Derived.Test.YticalbpohhpjaaaDoorShelfC
namespace Go.Proofs.YticalbpohhpjaaaDoor
open Go.RowKit

/-- A tray's cells. -/
abbrev trA (W H : Int) (a : Option Addr) (n c : Nat) (g : Int) : Array Value := #[.int .i64 W, .int .i64 H, .slice a n c, .int .i64 g]

/-- A tray lies in a block. -/
def Ty (w : World) (b : Nat) (W H : Int) (a : Option Addr) (n c : Nat) (g : Int) : Prop := w.heap[b]? = some (.cells (trA W H a n c g) 55 (0, 0))

section
variable {w w' : World} {b : Nat} {W H : Int} {a : Option Addr} {n c : Nat} {g : Int}

theorem Ty.cells (h : Ty w b W H a n c g) : w.cell? ⟨b, 0, none⟩ = some (.int .i64 W) ∧ w.cell? ⟨b, 1, none⟩ = some (.int .i64 H) ∧ w.cell? ⟨b, 2, none⟩ = some (.slice a n c) ∧ w.cell? ⟨b, 3, none⟩ = some (.int .i64 g) := by
  have h' : w.heap[b]? = _ := h
  simp [World.cell?, h']

theorem Ty.frozen (h : Ty w b W H a n c g) (i : Nat) : w.frozen? ⟨b, i, none⟩ = false := by
  have h' : w.heap[b]? = _ := h
  simp [World.frozen?, h']

theorem Ty.lt (h : Ty w b W H a n c g) : b < w.heap.size := (Array.getElem?_eq_some_iff.1 h).1

theorem Ty.keeps {X : Nat → Prop} (h : Ty w b W H a n c g) (hk : Keeps X w w') (hb : ¬ X b) : Ty w' b W H a n c g := (hk.block b h.lt hb).trans h

theorem Ty.below {C : Nat} (h : Ty w b W H a n c g) (hk : Below C w w') (hb : b < C) : Ty w' b W H a n c g := (hk.block b hb).trans h

theorem Ty.new (w : World) (W H : Int) (a : Option Addr) (n c : Nat) (g : Int) : Ty (w.alloc (.cells (trA W H a n c g) 55)) w.heap.size W H a n c g := heap_alloc_new w _

theorem Ty.old (h : Ty w b W H a n c g) (o : Obj) : Ty (w.alloc o) b W H a n c g := (Below.heap_alloc w o b h.lt).trans h

theorem Ty.range0 (h : Ty w b W H a n c g) : w.rangeAt b 0 [.int .i64 W, .int .i64 H, .slice a n c] := World.rangeAt_of_block h 0 3

theorem Ty.setG (h : Ty w b W H a n c g) (x : Int) : Ty (w.setCell ⟨b, 3, none⟩ (.int .i64 x)) b W H a n c x := by
  have h' : w.heap[b]? = _ := h
  simp [Ty, World.setCell, Array.getElem?_modify, h']

theorem Ty.drewN (h : Ty w b W H a n c g) (m : Nat) : Ty (w.drewN m) b W H a n c g := by unfold Ty; rw [drewN_heap]; exact h

end

theorem size55 : (Tryd.prog.info? 55).map (·.size) = some 4 := by kernel_rfl
theorem size80 : (Tryd.prog.info? 80).map (·.size) = some 2 := by kernel_rfl

/-- Does a step lead to a place? -/
def inb (W H p : Nat) (dx dy : Int) : Prop := 0 ≤ (p % W : Nat) + dx ∧ (p % W : Nat) + dx < W ∧ 0 ≤ (p / W : Nat) + dy ∧ (p / W : Nat) + dy < H

instance (W H p : Nat) (dx dy : Int) : Decidable (inb W H p dx dy) := by unfold inb; infer_instance

/-- To which one? -/
def stq (W H p : Nat) (dx dy : Int) : Int := if inb W H p dx dy then ((p / W : Nat) + dy) * W + ((p % W : Nat) + dx) else 0

set_option maxHeartbeats 4000000 in
theorem Step_any (W H p : Nat) (a : Option Addr) (n c : Nat) (dx dy : Int) (w : World) (hW : 2 ≤ W ∧ W ≤ 5) (hH : 2 ≤ H ∧ H ≤ 5) (hp : p < W * H) (hdx : -1 ≤ dx ∧ dx ≤ 1) (hdy : -1 ≤ dy ∧ dy ≤ 1) :
    Calls Tryd.prog 52 #[.agg (gdA W H a n c), .int .i64 p, .agg #[.int .i64 dx, .int .i64 dy]] w fun e w' => e = .returned (.tuple #[.int .i64 (stq W H p dx dy), .bool (decide (inb W H p dx dy))]) ∧ Below w.heap.size w w' := by
  have hp25 : p < 25 := by have := Nat.mul_le_mul hW.2 hH.2; omega
  have hX : p % W < W := Nat.mod_lt _ (by omega)
  have hY : p / W < H := Nat.div_lt_of_lt_mul (by omega)
  have hm : (p : Int) % (W : Int) = ((p % W : Nat) : Int) := by simp
  have hd : (p : Int) / (W : Int) = ((p / W : Nat) : Int) := by simp
  have hI : Hid (inb W H p dx dy ↔ (0 ≤ ((p % W : Nat) : Int) + dx ∧ ((p % W : Nat) : Int) + dx < W ∧ 0 ≤ ((p / W : Nat) : Int) + dy ∧ ((p / W : Nat) : Int) + dy < H)) := hide Iff.rfl
  have hQ : Hid (stq W H p dx dy = if inb W H p dx dy then (((p / W : Nat) : Int) + dy) * W + (((p % W : Nat) : Int) + dx) else 0) := hide rfl
  generalize p % W = X at *
  generalize p / W = Y at *
  generalize hqq : stq W H p dx dy = q at *
  have hW0 : ¬ (W : Int) = 0 := by omega
  obtain ⟨w1, hw1⟩ : ∃ w1, (w.alloc (.cells (gdA W H a n c) 24)).alloc (.cells #[.int .i64 dx, .int .i64 dy] 80) = w1 := ⟨_, rfl⟩
  have B1 := hide (show Below w.heap.size w w1 by rw [← hw1]; exact ((Below.refl _ w).alloc (Nat.le_refl _) _).alloc (by simp) _)
  obtain ⟨g0, g1, g2⟩ := (show Gd w1 w.heap.size W H a n c by rw [← hw1]; exact (Gd.new _ _ _ _ _ _).old _).cells
  have hn : w1.heap[w.heap.size + 1]? = some (.cells #[.int .i64 dx, .int .i64 dy] 80 (0, 0)) := by
    rw [← hw1]
    have := heap_alloc_new (w.alloc (.cells (gdA W H a n c) 24)) (.cells #[.int .i64 dx, .int .i64 dy] 80)
    rw [World.size_alloc] at this
    exact this
  have d0 : w1.cell? ⟨w.heap.size + 1, 0, none⟩ = some (.int .i64 dx) := by simp [World.cell?, hn]
  have d1 : w1.cell? ⟨w.heap.size + 1, 1, none⟩ = some (.int .i64 dy) := by simp [World.cell?, hn]
  clear hn
  go_enter Tryd.func52, Tryd.ntmps52
  go_upto_region 1 with fail
  clear hw1
  go_wp2_with fail
  go_quiet (fail)
  by_cases h1 : (X : Int) + dx < 0
  · have hN : ¬ inb W H p dx dy := fun h => by have := hI.out.1 h; omega
    have HR : Hid (q = 0 ∧ decide (inb W H p dx dy) = false) := hide ⟨by rw [hQ.out, if_neg hN], decide_eq_false hN⟩
    clear hN hI hQ hqq
    go_wp2_with fail
    go_ret2
    exact ⟨by rw [HR.out.1, HR.out.2]; rfl, B1.out.trans (drewN_below _ _ _)⟩
  by_cases h2 : (W : Int) ≤ (X : Int) + dx
  · have hN : ¬ inb W H p dx dy := fun h => by have := hI.out.1 h; omega
    have HR : Hid (q = 0 ∧ decide (inb W H p dx dy) = false) := hide ⟨by rw [hQ.out, if_neg hN], decide_eq_false hN⟩
    clear hN hI hQ hqq
    go_wp2_with fail
    go_ret2
    exact ⟨by rw [HR.out.1, HR.out.2]; rfl, B1.out.trans (drewN_below _ _ _)⟩
  by_cases h3 : (Y : Int) + dy < 0
  · have hN : ¬ inb W H p dx dy := fun h => by have := hI.out.1 h; omega
    have HR : Hid (q = 0 ∧ decide (inb W H p dx dy) = false) := hide ⟨by rw [hQ.out, if_neg hN], decide_eq_false hN⟩
    clear hN hI hQ hqq
    go_wp2_with fail
    go_ret2
    exact ⟨by rw [HR.out.1, HR.out.2]; rfl, B1.out.trans (drewN_below _ _ _)⟩
  by_cases h4 : (H : Int) ≤ (Y : Int) + dy
  · have hN : ¬ inb W H p dx dy := fun h => by have := hI.out.1 h; omega
    have HR : Hid (q = 0 ∧ decide (inb W H p dx dy) = false) := hide ⟨by rw [hQ.out, if_neg hN], decide_eq_false hN⟩
    clear hN hI hQ hqq
    go_wp2_with fail
    go_ret2
    exact ⟨by rw [HR.out.1, HR.out.2]; rfl, B1.out.trans (drewN_below _ _ _)⟩
  have hJ : inb W H p dx dy := hI.out.2 (by omega)
  have HR : Hid (q = ((Y : Int) + dy) * W + ((X : Int) + dx) ∧ decide (inb W H p dx dy) = true) := hide ⟨by rw [hQ.out, if_pos hJ], decide_eq_true hJ⟩
  obtain ⟨y, hy⟩ := Int.eq_ofNat_of_zero_le (show 0 ≤ (Y : Int) + dy by omega)
  have hyw : (y : Int) * (W : Int) = ((y * W : Nat) : Int) := by simp
  have hyb : y * W ≤ 4 * 5 := Nat.mul_le_mul (by omega) hW.2
  have HE : Hid (q = ((y * W : Nat) : Int) + ((X : Int) + dx)) := hide (by rw [HR.out.1, hy, ← hyw])
  have HT := hide HR.out.2
  clear hJ hI hQ hqq HR
  generalize y * W = Z at *
  go_wp2_with fail
  go_ret2
  exact ⟨by rw [HE.out, HT.out]; rfl, B1.out.trans (drewN_below _ _ _)⟩

theorem own_blk {w w' : World} {base e s n : Nat} {v : Value} {xs : List Value} (h : w.ownsRow base e s v n xs) (hb : ∀ g, v.ownBlock = some g → w'.heap[g]? = w.heap[g]?) : w'.ownsRow base e s v n xs := by
  refine ⟨h.1, ?_⟩
  rcases h.2 with h2 | ⟨g, cap, cur, rfl, h1, h2, h3⟩
  · exact Or.inl h2
  · exact Or.inr ⟨g, cap, cur, rfl, h1, (hb g rfl).trans h2, h3⟩

/-- A board's signs in a row that may be written to. -/
def Bw (V : World) (cb N bc : Nat) (Z : List Int) : Prop := V.ownsRow 0 3 1 (.slice (some ⟨cb, 0, none⟩) N bc) N (Z.map (Value.int .i64))

theorem Bw.rd {V : World} {cb N bc : Nat} {Z : List Int} (h : Bw V cb N bc Z) : Rd V (some ⟨cb, 0, none⟩) N bc Z := Rd.of_own h
theorem Bw.keeps {V V' : World} {X : Nat → Prop} {cb N bc : Nat} {Z : List Int} (h : Bw V cb N bc Z) (hk : Keeps X V V') (hX : ¬ X cb) : Bw V' cb N bc Z :=
  own_blk h (fun g hg => by
    simp only [Value.ownBlock, Option.some.injEq] at hg
    subst hg
    exact hk.block _ (h.lt _ rfl).2 hX)
theorem Bw.mono {V V' : World} {cb N bc : Nat} {Z : List Int} (h : Bw V cb N bc Z) (hb : Below V.heap.size V V') : Bw V' cb N bc Z := h.keeps (X := fun _ => False) (Keeps.of_all hb) (fun h => h)
theorem Bw.lt {V : World} {cb N bc : Nat} {Z : List Int} (h : Bw V cb N bc Z) : cb < V.heap.size := (World.ownsRow.lt h cb rfl).2
theorem Bw.set {V : World} {cb N bc : Nat} {Z : List Int} (h : Bw V cb N bc Z) (j : Nat) (x : Int) : Bw (V.setCell ⟨cb, j, none⟩ (.int .i64 x)) cb N bc (Z.set j x) := by
  have := (World.ownsRow.stored h j (.int .i64 x)).1
  unfold Bw
  rw [List.map_set]
  exact this
theorem Bw.frozen {V : World} {cb N bc : Nat} {Z : List Int} (h : Bw V cb N bc Z) (j : Nat) : V.frozen? ⟨cb, j, none⟩ = false := World.ownsRow.frozenAt h j

theorem Bw.notCells {w : World} {cb N bc : Nat} {Z : List Int} (h : Bw w cb N bc Z) {b : Nat} {cs : Array Value} {t : TypeId} (hb : w.heap[b]? = some (.cells cs t (0, 0))) (ht : t ≠ 3) : cb ≠ b := by
  rintro rfl
  rcases h.2 with ⟨hv, -⟩ | ⟨g, cap, cur, hv, -, hg, -⟩
  · simp at hv
  · simp only [Value.slice.injEq, Option.some.injEq, Addr.mk.injEq] at hv
    obtain ⟨⟨rfl, -⟩, -⟩ := hv
    rw [hb] at hg
    simp only [Option.some.injEq, Obj.cells.injEq] at hg
    exact ht hg.2.1


end Go.Proofs.YticalbpohhpjaaaDoor
