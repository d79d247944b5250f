/-
  Blocks of numbers. No conditions beyond those that each theorem bears.
-/
import Derived.Test.YtiihnlpoagnkhaaDoorWin
import Derived.BigRegion
import Derived.Laws.Rows
namespace Go.Proofs.YtiihnlpoagnkhaaDoor
open Go.RowKit

/-- A block of numbers. -/
def Blk (w : World) (b t : Nat) (L : List Nat) : Prop := w.heap[b]? = some (.cells ((toI L).map (Value.int .i64)).toArray t (0, 0))

theorem Blk.cell {w : World} {b t : Nat} {L : List Nat} (h : Blk w b t L) {i : Nat} (hi : i < L.length) : w.cell? ⟨b, i, none⟩ = some (.int .i64 (L.getD i 0)) := by
  have h' : w.heap[b]? = _ := h
  simp [World.cell?, h', toI, List.getD, hi]

theorem Blk.frozen {w : World} {b t : Nat} {L : List Nat} (h : Blk w b t L) (i : Nat) : w.frozen? ⟨b, i, none⟩ = false := by
  have h' : w.heap[b]? = _ := h
  simp [World.frozen?, h']

theorem Blk.set {w : World} {b t : Nat} {L : List Nat} (h : Blk w b t L) (i x : Nat) : Blk (w.setCell ⟨b, i, none⟩ (.int .i64 x)) b t (L.set i x) := by
  have h' : w.heap[b]? = _ := h
  simp [Blk, World.setCell, Array.getElem?_modify, h', toI, List.map_set]

theorem Blk.lt {w : World} {b t : Nat} {L : List Nat} (h : Blk w b t L) : b < w.heap.size := (Array.getElem?_eq_some_iff.1 h).1

theorem Blk.new (w : World) (t : Nat) (L : List Nat) (c : Array Value) (hc : c = ((toI L).map (Value.int .i64)).toArray) : Blk (w.alloc (.cells c t)) w.heap.size t L := by
  subst hc
  exact heap_alloc_new w _

theorem Blk.old {w : World} {b t : Nat} {L : List Nat} (h : Blk w b t L) (o : Obj) : Blk (w.alloc o) b t L :=
  (Below.heap_alloc w o b h.lt).trans h

theorem Blk.drew {w : World} {b t : Nat} {L : List Nat} (h : Blk w b t L) : Blk w.drew b t L := h


end Go.Proofs.YtiihnlpoagnkhaaDoor
