/-
  What a range over a function keeps of memory; what stays of rows and slices. No conditions beyond those that each theorem bears.
-/
import Derived.Test.YtdmlamnonbmboaaGreatDoorV04
import Derived.RangeFuncNested
import Derived.RangeFuncBound
import Derived.RangeFuncCalls
import Derived.RangeFuncLeaves
import Derived.Shelf.Abstract
import Derived.Shelf.RegionOpen
import Derived.WalkKit
import Derived.OwnWalkIn
import Derived.TacticsInMore
import Derived.LoopNIn
import Derived.LoopIn
namespace Go.Proofs.YtdmlamnonbmboaaGreatDoor
open Go.RowKit Go.Shelf

theorem Keeps.put {X : Nat → Prop} {a b : World} (h : Keeps X a b) {l : Nat} (hp : X l) (o : Obj) : Keeps X a (b.putObj l o) := by
  refine h.trans ⟨rfl, rfl, rfl, ?_, fun k _ hx => ?_⟩
  · exact (grownBy_putObj' b l o).size
  · exact World.putObj_heap_other (fun e => hx (e ▸ hp))

theorem YieldAt.anyD {m m' : Nat} {P : Program} {l : Nat} {args : Array Value} {W : World} {R : Ending → World → Prop} (h : YieldAt Fence.wide m P l args W R) : YieldAt Fence.wide m' P l args W R := by
  obtain ⟨fn, tmps, assign, body, hy, hF, hR⟩ := h
  exact ⟨fn, tmps, assign, body, hy, hF, fun c cs _ => hR c cs (fun d hd => by cases hd)⟩

theorem drewN_grown (w : World) (q : Nat) : w.grownBy (w.drewN q) none := by
  cases q with
  | zero => exact World.grownBy.refl _ _
  | succ q => exact ⟨rfl, rfl, rfl, Nat.le_refl _, fun _ _ _ => rfl⟩

theorem own_blk {w w' : World} {base e s n : Nat} {v : Value} {xs : List Value} (h : w.ownsRow base e s v n xs) (hb : ∀ g, v.ownBlock = some g → w'.heap[g]? = w.heap[g]?) : w'.ownsRow base e s v n xs := by
  refine ⟨h.1, ?_⟩
  rcases h.2 with h2 | ⟨g, cap, cur, rfl, h1, h2, h3⟩
  · exact Or.inl h2
  · exact Or.inr ⟨g, cap, cur, rfl, h1, (hb g rfl).trans h2, h3⟩

theorem Rd.keepsN {X : Nat → Prop} {w w' : World} {a n c zs} (h : Rd w a n c zs) (hb : Keeps X w w') (hX : 0 < n → ∀ b off, a = some ⟨b, off, none⟩ → ¬ X b) : Rd w' a n c zs := by
  refine ⟨h.len, h.cap, h.max, h.nil, fun hn => ?_⟩
  obtain ⟨b, off, rfl, hc⟩ := h.cells hn
  exact ⟨b, off, rfl, fun i hi => hb.cell (hc i hi) (hX hn b off rfl)⟩

theorem Rd.blt {w : World} {b off n c : Nat} {zs : List Int} (h : Rd w (some ⟨b, off, none⟩) n c zs) (hn : 0 < n) : b < w.heap.size := World.block_lt_of_cell? w _ (h.cell hn).2

theorem keeps_grown {w w' : World} {row : Option Nat} (h : w.grownBy w' row) : Keeps (fun k => row = some k) w w' :=
  ⟨h.os, h.tape, h.output, h.size, fun i hi hx => h.block i hi (fun e => hx e.symm)⟩

theorem set_back {Z : List Int} {p : Nat} {x : Int} (hp : p < Z.length) (h : Z.getD p 0 = 0) : (Z.set p x).set p 0 = Z := by
  rw [List.set_set]
  have : Z[p] = 0 := by simpa [List.getD, hp] using h
  rw [← this]
  exact List.set_getElem_self hp

theorem wide_fn (l f : Nat) : (Fence.wide.inRound l).fn f = True := rfl
theorem wide_fn0 (f : Nat) : Fence.wide.fn f = True := rfl
theorem wide_depth (l : Nat) : (Fence.wide.inRound l).depth = none := rfl

theorem u64_ne {r : Nat} (h : r ≠ 0) : ((r : Int) != 0) = true := by simp; omega
theorem u64_ez {r : Nat} (h : r ≠ 0) : ((r : Int) == 0) = false := by simp; omega
def toI (l : List Nat) : List Int := l.map (fun x : Nat => (x : Int))
theorem toI_len (l : List Nat) : (toI l).length = l.length := by simp [toI]
theorem toI_snoc (l : List Nat) (x : Nat) : toI (l ++ [x]) = toI l ++ [(x : Int)] := by simp [toI]
theorem toI_getD {L : List Nat} {j : Nat} (hj : j < L.length) : (toI L).getD j 0 = ((L.getD j 0 : Nat) : Int) := by
  simp [toI, List.getD, hj]
theorem new_cell (W : World) (v : Value) (t : TypeId) : (W.alloc (.cells #[v] t)).cell? ⟨W.heap.size, 0, none⟩ = some v := by
  have h := heap_alloc_new W (.cells #[v] t)
  unfold World.cell?
  simp only [h]
  rfl
theorem old_cell {W : World} {a : Addr} {v : Value} (o : Obj) (h : W.cell? a = some v) : (W.alloc o).cell? a = some v := cell_kept h (World.grownBy_alloc W o none) (fun r e => by cases e)
theorem slice_form {w : World} {base e : Nat} {v : Value} {n s : Nat} {xs : List Value} (h : w.ownsRow base e s v n xs) : ∃ a c, v = .slice a n c := by
  rcases h.2 with ⟨hv, h0⟩ | ⟨g, cap, cur, hv, _⟩
  · exact ⟨none, 0, by rw [hv, h0]⟩
  · exact ⟨_, _, hv⟩

end Go.Proofs.YtdmlamnonbmboaaGreatDoor
