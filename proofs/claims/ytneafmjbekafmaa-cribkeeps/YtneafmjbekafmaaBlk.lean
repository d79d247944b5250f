/-
  Blocks of numbers; small facts on worlds and on cards. No conditions beyond those that each theorem bears.
-/
import Derived.Test.YtneafmjbekafmaaSets
import Derived.BigRegion
import Derived.Deep.RegionWith
namespace Go.Proofs.Ytneafmjbekafmaa
open Go.RowKit Go.Shelf
theorem wpIn_len {F : Fence} {n : Nat} {o : Oper} {a : Act} {w : World} {K : Act → World → Prop} {Q : Exit → Act → World → Prop} (s : Operand)
    (ho : o.op = .call { callee := .builtin .len, args := #[s], argTypes := #[22] }) (ad : Option Addr) (m c : Nat) (hs : a.eval s = .slice ad m c) (h : K (a.put o.dst (.int .i64 m)) w) :
    o.wpIn F n Try.prog a w K Q := by
  unfold Oper.wpIn
  refine ⟨?_, ?_⟩
  · intro f hf
    simp [Oper.about, ho, resolve, go_sem] at hf
  · have hsem : o.semAt F.round a.eval = execOp a.eval o := Oper.semAt_eq _ _ _ (fun c hc => by rw [ho] at hc; cases hc)
    rw [hsem]
    simp [execOp, ho, resolve, invoke, builtin, hs, Builtin.len_, run_underlying Try.underlying22, goInt, Result.andThen]
    exact h

theorem wpListIn_len {F : Fence} {n : Nat} {ops : Array Oper} {rest : List Oper} {o : Oper} {a : Act} {w : World} {Q : Exit → Act → World → Prop} (hgd : o.guard = none) (s : Operand)
    (ho : o.op = .call { callee := .builtin .len, args := #[s], argTypes := #[22] }) (ad : Option Addr) (m c : Nat) (hs : a.eval s = .slice ad m c) (h : wpListIn F n Try.prog ops Q rest (a.put o.dst (.int .i64 m)) w) :
    wpListIn F n Try.prog ops Q (o :: rest) a w :=
  wpListIn_plain hgd fun _ hK => wpIn_len s ho ad m c hs (hK _ _ h)

theorem new_cell (W : World) (v : Value) (t : TypeId) : (W.alloc (.cells #[v] t)).cell? ⟨W.heap.size, 0, none⟩ = some v :=
  (Boxed.new W t v).cell

theorem new_frozen (W : World) (v : Value) (t : TypeId) : (W.alloc (.cells #[v] t)).frozen? ⟨W.heap.size, 0, none⟩ = false :=
  (Boxed.new W t v).frozen

theorem old_cell {W : World} {a : Addr} {v : Value} (o : Obj) (h : W.cell? a = some v) : (W.alloc o).cell? a = some v := cell_kept h (World.grownBy_alloc W o none) (fun r e => by cases e)

set_option maxHeartbeats 400000 in
theorem sets_any (n k : Nat) (w : World) :
    Calls Try.prog 29 #[.int .i64 n, .int .i64 k] w fun e w' => e = .returned (.func (.func 49) #[] #[.pointer (some ⟨w.heap.size + 1, 0, none⟩), .pointer (some ⟨w.heap.size, 0, none⟩)]) ∧ w' = (w.alloc (.cells #[.int .i64 n] 3)).alloc (.cells #[.int .i64 k] 3) := by
  go_enter Try.func29, Try.ntmps29
  go_wp2
  go_ret
  exact ⟨rfl, rfl⟩

theorem wide_fn (l f : Nat) : (Fence.wide.inRound l).fn f = True := rfl

theorem wide_fn0 (f : Nat) : Fence.wide.fn f = True := rfl

theorem wide_depth (l : Nat) : (Fence.wide.inRound l).depth = none := rfl

theorem Rd.keeps {X : Nat → Prop} {w w' : World} {a n c zs} (h : Rd w a n c zs) (hb : Keeps X w w') (hX : ∀ b off, a = some ⟨b, off, none⟩ → ¬ X b) : Rd w' a n c zs := by
  refine ⟨h.len, h.cap, h.max, h.nil, fun hn => ?_⟩
  obtain ⟨b, off, rfl, hc⟩ := h.cells hn
  exact ⟨b, off, rfl, fun i hi => hb.cell (hc i hi) (hX b off rfl)⟩
theorem take_snoc (l : List Nat) (k : Nat) (h : k < l.length) : l.take (k + 1) = l.take k ++ [l.getD k 0] := by
  rw [List.take_succ_eq_append_getElem h]
  simp [List.getD, h]

/-- A block of numbers. -/
def Blk (w : World) (b t : Nat) (L : List Nat) : Prop := w.heap[b]? = some (.cells ((toI L).map (Value.int .i64)).toArray t (0, 0))

theorem Blk.cell {w : World} {b t : Nat} {L : List Nat} (h : Blk w b t L) {i : Nat} (hi : i < L.length) : w.cell? ⟨b, i, none⟩ = some (.int .i64 (L.getD i 0)) := by
  have h' : w.heap[b]? = _ := h
  simp [World.cell?, h', toI, List.getD, hi]

theorem Blk.frozen {w : World} {b t : Nat} {L : List Nat} (h : Blk w b t L) (i : Nat) : w.frozen? ⟨b, i, none⟩ = false := by
  have h' : w.heap[b]? = _ := h
  simp [World.frozen?, h']

theorem Blk.set {w : World} {b t : Nat} {L : List Nat} (h : Blk w b t L) (i x : Nat) : Blk (w.setCell ⟨b, i, none⟩ (.int .i64 x)) b t (L.set i x) := by
  have h' : w.heap[b]? = _ := h
  simp [Blk, World.setCell, Array.getElem?_modify, h', toI, List.map_set]

theorem Blk.keeps {X : Nat → Prop} {w w' : World} {b t : Nat} {L : List Nat} (h : Blk w b t L) (hk : Keeps X w w') (hb : ¬ X b) : Blk w' b t L :=
  (hk.block b (Array.getElem?_eq_some_iff.1 h).1 hb).trans h

theorem Blk.lt {w : World} {b t : Nat} {L : List Nat} (h : Blk w b t L) : b < w.heap.size := (Array.getElem?_eq_some_iff.1 h).1

theorem Blk.new (w : World) (t : Nat) (L : List Nat) (c : Array Value) (hc : c = ((toI L).map (Value.int .i64)).toArray) : Blk (w.alloc (.cells c t)) w.heap.size t L := by
  subst hc
  exact World.alloc_heap_new w _

theorem Blk.old {w : World} {b t : Nat} {L : List Nat} (h : Blk w b t L) (o : Obj) : Blk (w.alloc o) b t L :=
  (Below.heap_alloc w o b h.lt).trans h

theorem Keeps.setOne {w w' : World} {b : Nat} (h : Keeps (fun k => k = b) w w') (i : Nat) (v : Value) : Keeps (fun k => k = b) w (w'.setCell ⟨b, i, none⟩ v) :=
  h.setCell (p := ⟨b, i, none⟩) rfl v

theorem rep0 (n r : Nat) : (List.replicate n 0).getD r 0 = 0 := by
  simp only [List.getD, List.getElem?_replicate]
  split <;> rfl

theorem div4 (x : Nat) : (x : Int) / 4 = ((x / 4 : Nat) : Int) := by omega

theorem mod13 (x : Nat) : (x : Int) % 13 = ((x % 13 : Nat) : Int) := by omega

theorem div13 (x : Nat) : (x : Int) / 13 = ((x / 13 : Nat) : Int) := by omega
theorem tmod4 (a : Nat) : Int.tmod (a : Int) 4 = ((a % 4 : Nat) : Int) := by
  rw [Int.tmod_eq_emod_of_nonneg (by omega)]; omega

end Go.Proofs.Ytneafmjbekafmaa
