/-
  A play in its block; what comes of a move. No conditions beyond those that each theorem bears.
-/
import Derived.Test.YtafiaimlmdflnaaPc
namespace Go.Proofs.Ytafiaimlmdflnaa
open Go.RowKit Go.Shelf

/-- A play's cells. -/
abbrev plA (W H : Int) (a : Option Addr) (n c : Nat) (t u m q : Int) (b : Nat) : Array Value := #[.int .i64 W, .int .i64 H, .slice a n c, .int .i64 t, .int .i64 u, .int .i64 m, .int .i64 q, .map (some b)]

/-- A play lies in a block. -/
def Py (w : World) (g : Nat) (W H : Int) (a : Option Addr) (n c : Nat) (t u m q : Int) (b : Nat) : Prop := w.heap[g]? = some (.cells (plA W H a n c t u m q b) 70 (0, 0))

section
variable {w w' : World} {g : Nat} {W H : Int} {a : Option Addr} {n c : Nat} {t u m q : Int} {b : Nat}

theorem Py.cells (h : Py w g W H a n c t u m q b) : w.cell? ⟨g, 3, none⟩ = some (.int .i64 t) ∧ w.cell? ⟨g, 4, none⟩ = some (.int .i64 u) ∧ w.cell? ⟨g, 5, none⟩ = some (.int .i64 m) ∧ w.cell? ⟨g, 6, none⟩ = some (.int .i64 q) ∧ w.cell? ⟨g, 7, none⟩ = some (.map (some b)) := by
  have h' : w.heap[g]? = _ := h
  simp [World.cell?, h']

theorem Py.frozen (h : Py w g W H a n c t u m q b) (i : Nat) : w.frozen? ⟨g, i, none⟩ = false := by
  have h' : w.heap[g]? = _ := h
  simp [World.frozen?, h']

theorem Py.lt (h : Py w g W H a n c t u m q b) : g < w.heap.size := (Array.getElem?_eq_some_iff.1 h).1

theorem Py.keeps {X : Nat → Prop} (h : Py w g W H a n c t u m q b) (hk : Keeps X w w') (hb : ¬ X g) : Py w' g W H a n c t u m q b := (hk.block g h.lt hb).trans h

theorem Py.below {C : Nat} (h : Py w g W H a n c t u m q b) (hk : Below C w w') (hb : g < C) : Py w' g W H a n c t u m q b := (hk.block g hb).trans h

theorem Py.new (w : World) (W H : Int) (a : Option Addr) (n c : Nat) (t u m q : Int) (b : Nat) : Py (w.alloc (.cells (plA W H a n c t u m q b) 70)) w.heap.size W H a n c t u m q b := heap_alloc_new w _

theorem Py.range0 (h : Py w g W H a n c t u m q b) : w.rangeAt g 0 [.int .i64 W, .int .i64 H, .slice a n c] := World.rangeAt_of_block h 0 3

theorem Py.range3 (h : Py w g W H a n c t u m q b) : w.rangeAt g 3 [.int .i64 t, .int .i64 u] := World.rangeAt_of_block h 3 2

theorem Py.setT (h : Py w g W H a n c t u m q b) (x : Int) : Py (w.setCell ⟨g, 3, none⟩ (.int .i64 x)) g W H a n c x u m q b := by
  have h' : w.heap[g]? = _ := h
  simp [Py, World.setCell, Array.getElem?_modify, h']

theorem Py.setU (h : Py w g W H a n c t u m q b) (x : Int) : Py (w.setCell ⟨g, 4, none⟩ (.int .i64 x)) g W H a n c t x m q b := by
  have h' : w.heap[g]? = _ := h
  simp [Py, World.setCell, Array.getElem?_modify, h']

theorem Py.setM (h : Py w g W H a n c t u m q b) (x : Int) : Py (w.setCell ⟨g, 5, none⟩ (.int .i64 x)) g W H a n c t u x q b := by
  have h' : w.heap[g]? = _ := h
  simp [Py, World.setCell, Array.getElem?_modify, h']

theorem Py.setQ (h : Py w g W H a n c t u m q b) (x : Int) : Py (w.setCell ⟨g, 6, none⟩ (.int .i64 x)) g W H a n c t u m x b := by
  have h' : w.heap[g]? = _ := h
  simp [Py, World.setCell, Array.getElem?_modify, h']

theorem Py.there (h : Py w g W H a n c t u m q b) : w.there g 0 3 := by
  intro j hj
  have h' : w.heap[g]? = _ := h
  match j, hj with
  | 0, _ => simp [World.cell?, World.frozen?, h']
  | 1, _ => simp [World.cell?, World.frozen?, h']
  | 2, _ => simp [World.cell?, World.frozen?, h']
  | j + 3, h3 => omega

theorem wpList_store_py {ops : Array Oper} {rest : List Oper} {o : Oper} {act : Act} {Q : Exit → Act → World → Prop} (hgd : o.guard = none) (x y : Operand) (ho : o.op = .store 54 x y)
    {W' H' : Int} {a' : Option Addr} {n' c' : Nat} (hx : act.eval x = .pointer (some ⟨g, 0, none⟩)) (hy : act.eval y = .agg (gdA W' H' a' n' c')) (hb : Py w g W H a n c t u m q b)
    (h : ∀ w', Py w' g W' H' a' n' c' t u m q b → Keeps (fun k => k = g) w w' → wpList Try.prog ops Q rest (act.put o.dst undef) w') : wpList Try.prog ops Q (o :: rest) act w := by
  refine wpList_store_mid hgd 54 x y ho g 0 (gdA W' H' a' n' c') hx hy hb.there size54 (by simp [Value.oneCell']) (h _ ?_ ?_)
  · have h' : w.heap[g]? = _ := hb
    simp [Py, World.setCells, World.setCell, Array.getElem?_modify, h']
  · exact (((Keeps.refl (fun k => k = g) w).setCell (p := ⟨g, 0, none⟩) rfl _).setCell (p := ⟨g, 1, none⟩) rfl _).setCell (p := ⟨g, 2, none⟩) rfl _

end

/-- A play. -/
structure PS where
  Z : List Int
  t : Nat
  u : Nat
  m : Nat
  q : Nat
  X : List (List Int)

/-- What comes of a stone. -/
noncomputable def stn (W H : Nat) (s : PS) (x : Int) : PS × Nat :=
  if pE W H s.Z (1 + s.m % 2) x = 0 then
    (open Classical in if pad (pz W H s.Z (1 + s.m % 2) x.toNat) ∈ s.X then (s, 8)
    else (⟨pz W H s.Z (1 + s.m % 2) x.toNat, if s.m % 2 = 0 then s.t + pt W H s.Z (1 + s.m % 2) x.toNat else s.t, if s.m % 2 = 0 then s.u else s.u + pt W H s.Z (1 + s.m % 2) x.toNat, s.m + 1, 0, pad (pz W H s.Z (1 + s.m % 2) x.toNat) :: s.X⟩, 0))
  else (s, pE W H s.Z (1 + s.m % 2) x)

/-- What comes of a move. -/
noncomputable def mvd (W H : Nat) (s : PS) (x : Int) : PS × Nat :=
  if s.q = 2 then (s, 9) else if x = -1 then ({ s with q := s.q + 1, m := s.m + 1 }, 0) else stn W H s x

/-- A play lies in block g, its boards in block b. -/
structure PlayAt (w : World) (g b W H N : Nat) (s : PS) : Prop where
  at_ : ∃ cb bc, Py w g W H (some ⟨cb, 0, none⟩) N bc s.t s.u s.m s.q b ∧ Bw w cb N bc s.Z ∧ cb ≠ g ∧ cb ≠ b
  set_ : St w b (s.m + 1) s.X
  ne : b ≠ g
  may : mayP W H s.Z
  t_ : s.t ≤ 100 * s.m
  u_ : s.u ≤ 100 * s.m
  q_ : s.q ≤ 2

end Go.Proofs.Ytafiaimlmdflnaa
