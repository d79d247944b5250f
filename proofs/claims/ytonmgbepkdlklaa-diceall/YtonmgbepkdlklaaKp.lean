/-
  Blocks of numbers; what changes some blocks alone. No conditions beyond those that each theorem bears.
-/
import Derived.Test.YtonmgbepkdlklaaBase
import Derived.Test.YtonmgbepkdlklaaMath
namespace Go.Proofs.Ytonmgbepkdlklaa
open Go.RowKit

/-- Of the blocks that there were, those that X does not name are as they were. -/
structure Keeps (X : Nat → Prop) (w w' : World) : Prop where
  os : w'.os = w.os
  tape : w'.tape = w.tape
  output : w'.output = w.output
  size : w.heap.size ≤ w'.heap.size
  block : ∀ k, k < w.heap.size → ¬ X k → w'.heap[k]? = w.heap[k]?

theorem Keeps.refl (X : Nat → Prop) (w : World) : Keeps X w w := ⟨rfl, rfl, rfl, Nat.le_refl _, fun _ _ _ => rfl⟩

theorem Keeps.trans {X : Nat → Prop} {a b c : World} (h : Keeps X a b) (k : Keeps X b c) : Keeps X a c :=
  ⟨k.os.trans h.os, k.tape.trans h.tape, k.output.trans h.output, Nat.le_trans h.size k.size, fun i hi hx => (k.block i (Nat.lt_of_lt_of_le hi h.size) hx).trans (h.block i hi hx)⟩

theorem Keeps.mono {X Y : Nat → Prop} {a b : World} (h : Keeps X a b) (hs : ∀ k, k < a.heap.size → X k → Y k) : Keeps Y a b :=
  ⟨h.os, h.tape, h.output, h.size, fun i hi hx => h.block i hi (fun k => hx (hs i hi k))⟩

theorem Keeps.of_below {B : Nat} {a b : World} (h : Below B a b) : Keeps (fun k => B ≤ k) a b :=
  ⟨h.os, h.tape, h.output, h.size, fun i _ hx => h.block i (Nat.lt_of_not_le hx)⟩

theorem Keeps.below {X : Nat → Prop} {B : Nat} {a b : World} (h : Keeps X a b) (hB : B ≤ a.heap.size) (hX : ∀ k, k < B → ¬ X k) : Below B a b :=
  ⟨h.os, h.tape, h.output, h.size, fun i hi => h.block i (Nat.lt_of_lt_of_le hi hB) (hX i hi)⟩

theorem Keeps.of_all {X : Nat → Prop} {a b : World} (h : Below a.heap.size a b) : Keeps X a b :=
  ⟨h.os, h.tape, h.output, h.size, fun i hi _ => h.block i hi⟩

theorem Keeps.drew {X : Nat → Prop} {a b : World} (h : Keeps X a b) : Keeps X a b.drew := ⟨h.os, h.tape, h.output, h.size, h.block⟩

theorem Keeps.alloc {X : Nat → Prop} {a b : World} (h : Keeps X a b) (o : Obj) : Keeps X a (b.alloc o) :=
  h.trans (Keeps.of_all ((Below.refl _ b).alloc (Nat.le_refl _) o))

theorem Keeps.setCell {X : Nat → Prop} {a b : World} (h : Keeps X a b) {p : Addr} (hp : X p.block) (u : Value) : Keeps X a (b.setCell p u) :=
  h.trans ⟨rfl, rfl, rfl, by simp [World.setCell], fun k _ hx => Below.heap_setCell _ _ _ _ (fun e => hx (e ▸ hp))⟩

theorem Keeps.cell {X : Nat → Prop} {w w' : World} (h : Keeps X w w') {p : Addr} {v : Value} (hc : w.cell? p = some v) (hp : ¬ X p.block) : w'.cell? p = some v :=
  (World.cell?_of_block (w := w) (h.block p.block (World.block_lt_of_cell? w _ hc) hp)).trans hc

theorem Rd.keeps {X : Nat → Prop} {w w' : World} {a n c zs} (h : Rd w a n c zs) (hb : Keeps X w w') (hX : ∀ b off, a = some ⟨b, off, none⟩ → ¬ X b) : Rd w' a n c zs := by
  refine ⟨h.len, h.cap, h.max, h.nil, fun hn => ?_⟩
  obtain ⟨b, off, rfl, hc⟩ := h.cells hn
  exact ⟨b, off, rfl, fun i hi => hb.cell (hc i hi) (hX b off rfl)⟩

def toI (s : List Nat) : List Int := s.map (fun x : Nat => (x : Int))

theorem toI_length (s : List Nat) : (toI s).length = s.length := by simp [toI]
theorem toI_getD (s : List Nat) (i : Nat) : (toI s).getD i 0 = ((s.getD i 0 : Nat) : Int) := by
  simp only [toI, List.getD, List.getElem?_map]
  cases s[i]? <;> simp

theorem made_ints (n : Nat) : (madeCells #[Value.int .i64 0] n).toList = (toI (List.replicate n 0)).map (Value.int .i64) := by
  rw [toList_madeCells_one, toI, List.map_replicate, List.map_replicate]; rfl

theorem getD_setN (L : List Nat) (i j : Nat) (x : Nat) (hi : i < L.length) : (L.set i x).getD j 0 = if j = i then x else L.getD j 0 := by
  simp only [List.getD, List.getElem?_set]
  by_cases h : i = j
  · subst h; simp [hi]
  · rw [if_neg h, if_neg (fun e => h e.symm)]

theorem rep0 (n r : Nat) : (List.replicate n 0).getD r 0 = 0 := by
  simp only [List.getD, List.getElem?_replicate]
  split <;> rfl

/-- A block of numbers. -/
def Blk (w : World) (b : Nat) (L : List Nat) : Prop := w.heap[b]? = some (.cells ((toI L).map (Value.int .i64)).toArray 3 (0, 0))

theorem Blk.cell {w : World} {b : Nat} {L : List Nat} (h : Blk w b L) {i : Nat} (hi : i < L.length) : w.cell? ⟨b, i, none⟩ = some (.int .i64 (L.getD i 0)) := by
  have h' : w.heap[b]? = _ := h
  simp [World.cell?, h', toI, List.getD, hi]

theorem Blk.frozen {w : World} {b : Nat} {L : List Nat} (h : Blk w b L) (i : Nat) : w.frozen? ⟨b, i, none⟩ = false := by
  have h' : w.heap[b]? = _ := h
  simp [World.frozen?, h']

theorem Blk.set {w : World} {b : Nat} {L : List Nat} (h : Blk w b L) (i x : Nat) : Blk (w.setCell ⟨b, i, none⟩ (.int .i64 x)) b (L.set i x) := by
  have h' : w.heap[b]? = _ := h
  simp [Blk, World.setCell, Array.getElem?_modify, h', toI, List.map_set]

theorem Blk.keeps {X : Nat → Prop} {w w' : World} {b : Nat} {L : List Nat} (h : Blk w b L) (hk : Keeps X w w') (hb : ¬ X b) : Blk w' b L :=
  (hk.block b (Array.getElem?_eq_some_iff.1 h).1 hb).trans h

theorem Blk.lt {w : World} {b : Nat} {L : List Nat} (h : Blk w b L) : b < w.heap.size := (Array.getElem?_eq_some_iff.1 h).1

theorem Blk.below {w w' : World} {b B : Nat} {L : List Nat} (h : Blk w b L) (hk : Below B w w') (hb : b < B) : Blk w' b L := (hk.block b hb).trans h

theorem Keeps.set1 (w : World) (b i : Nat) (v : Value) : Keeps (fun k => k = b) w (w.setCell ⟨b, i, none⟩ v) :=
  Keeps.setCell (X := fun k => k = b) (Keeps.refl _ w) (p := ⟨b, i, none⟩) rfl v

theorem Blk.other {w : World} {b g : Nat} {L : List Nat} (h : Blk w b L) (hb : b ≠ g) (i : Nat) (v : Value) : Blk (w.setCell ⟨g, i, none⟩ v) b L := h.keeps (Keeps.set1 w g i v) hb

theorem Blk.of_own {w : World} {base g n : Nat} {L : List Nat} (h : w.ownsRow base 3 1 (.slice (some ⟨g, 0, none⟩) n n) n ((toI L).map (Value.int .i64))) : Blk w g L := by
  rcases h.2 with ⟨hv, _⟩ | ⟨g', cap, cur, hv, hb, hg, hnc, hcm, hcs, ht⟩
  · simp at hv
  · simp only [Value.slice.injEq, Option.some.injEq, Addr.mk.injEq, and_true, true_and] at hv
    obtain ⟨rfl, rfl⟩ := hv
    have e : cur = ((toI L).map (Value.int .i64)).toArray := by
      rw [← ht, List.take_of_length_le (by simp [hcs])]
    rw [Blk, hg, e]

theorem Blk.rd {w : World} {b : Nat} {L : List Nat} (h : Blk w b L) (hm : L.length ≤ maxLen) : Rd w (some ⟨b, 0, none⟩) L.length L.length (toI L) :=
  ⟨toI_length _, Nat.le_refl _, hm, (fun h => by simp at h), fun _ => ⟨b, 0, rfl, fun i hi => by rw [Nat.zero_add, h.cell hi, toI_getD]⟩⟩

theorem ret_int {a b : Int} (h : a = b) : Ending.returned (.int .i64 a) = .returned (.int .i64 b) := by rw [h]

theorem drewN_below (B : Nat) (w : World) (q : Nat) : Below B w (w.drewN q) := by
  induction q with
  | zero => exact Below.refl _ _
  | succ q ih => exact ⟨rfl, rfl, rfl, Nat.le_refl _, fun _ _ => rfl⟩

theorem new_cell (W : World) (v : Value) (t : TypeId) : (W.alloc (.cells #[v] t)).cell? ⟨W.heap.size, 0, none⟩ = some v :=
  by go_simp

theorem new_frozen (W : World) (v : Value) (t : TypeId) : (W.alloc (.cells #[v] t)).frozen? ⟨W.heap.size, 0, none⟩ = false :=
  by go_simp

theorem old_cell {W : World} {a : Addr} {v : Value} (o : Obj) (h : W.cell? a = some v) : (W.alloc o).cell? a = some v :=
  (((Below.refl W.heap.size W).alloc (Nat.le_refl _) o).cell (World.block_lt_of_cell? _ _ h)).trans h

end Go.Proofs.Ytonmgbepkdlklaa
