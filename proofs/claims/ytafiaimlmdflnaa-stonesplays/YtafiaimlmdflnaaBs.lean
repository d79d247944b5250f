/-
  Boards of stones in blocks; the four directions; whether a place is inside. No conditions beyond those that each theorem bears.
-/
import Derived.Test.YtafiaimlmdflnaaHr
import Derived.Test.YtafiaimlmdflnaaNm
namespace Go.Proofs.Ytafiaimlmdflnaa
open Go.RowKit Go.Shelf

theorem new_cell (W : World) (v : Value) (t : TypeId) : (W.alloc (.cells #[v] t)).cell? ⟨W.heap.size, 0, none⟩ = some v := by
  have h := heap_alloc_new W (.cells #[v] t)
  unfold World.cell?
  simp only [h]
  rfl

theorem old_cell {W : World} {a : Addr} {v : Value} (o : Obj) (h : W.cell? a = some v) : (W.alloc o).cell? a = some v := cell_kept h (World.grownBy_alloc W o none) (fun r e => by cases e)

theorem Keeps.after {X Y : Nat → Prop} {a b c : World} (h : Keeps X a b) (k : Keeps Y b c) (hY : ∀ i, i < a.heap.size → Y i → X i) : Keeps X a c :=
  ⟨k.os.trans h.os, k.tape.trans h.tape, k.output.trans h.output, Nat.le_trans h.size k.size, fun i hi hx => (k.block i (Nat.lt_of_lt_of_le hi h.size) (fun e => hx (hY i hi e))).trans (h.block i hi hx)⟩

theorem own_below {w w' : World} {base e s n : Nat} {v : Value} {xs : List Value} (h : w.ownsRow base e s v n xs) (hb : Below w.heap.size w w') : w'.ownsRow base e s v n xs :=
  own_blk h (fun g hg => hb.block g (h.lt g hg).2)

theorem slice_form {w : World} {base e : Nat} {v : Value} {n s : Nat} {xs : List Value} (h : w.ownsRow base e s v n xs) : ∃ a c, v = .slice a n c := by
  rcases h.2 with ⟨hv, h0⟩ | ⟨g, cap, cur, hv, _⟩
  · exact ⟨none, 0, by rw [hv]; simp; omega⟩
  · exact ⟨_, _, hv⟩

theorem frozen_new (W : World) (v : Value) (t : TypeId) : (W.alloc (.cells #[v] t)).frozen? ⟨W.heap.size, 0, none⟩ = false := by
  have h1 : (W.alloc (.cells #[v] t)).heap[W.heap.size]? = some (.cells #[v] t (0, 0)) := heap_alloc_new W _
  unfold World.frozen?
  simp only [h1]
  rfl

/-- A board of stones lies in a block. -/
def Hb (w : World) (b : Nat) (W H : Int) (a : Option Addr) (n c : Nat) : Prop := w.heap[b]? = some (.cells (gdA W H a n c) 54 (0, 0))

theorem Hb.cells {w : World} {b : Nat} {W H : Int} {a : Option Addr} {n c : Nat} (h : Hb w b W H a n c) : w.cell? ⟨b, 0, none⟩ = some (.int .i64 W) ∧ w.cell? ⟨b, 1, none⟩ = some (.int .i64 H) ∧ w.cell? ⟨b, 2, none⟩ = some (.slice a n c) := by
  have h' : w.heap[b]? = _ := h
  simp [World.cell?, h']

theorem Hb.frozen {w : World} {b : Nat} {W H : Int} {a : Option Addr} {n c : Nat} (h : Hb w b W H a n c) (i : Nat) : w.frozen? ⟨b, i, none⟩ = false := by
  have h' : w.heap[b]? = _ := h
  simp [World.frozen?, h']

theorem Hb.lt {w : World} {b : Nat} {W H : Int} {a : Option Addr} {n c : Nat} (h : Hb w b W H a n c) : b < w.heap.size := (Array.getElem?_eq_some_iff.1 h).1

theorem Hb.keeps {X : Nat → Prop} {w w' : World} {b : Nat} {W H : Int} {a : Option Addr} {n c : Nat} (h : Hb w b W H a n c) (hk : Keeps X w w') (hb : ¬ X b) : Hb w' b W H a n c :=
  (hk.block b h.lt hb).trans h

theorem Hb.below {w w' : World} {b C : Nat} {W H : Int} {a : Option Addr} {n c : Nat} (h : Hb w b W H a n c) (hk : Below C w w') (hb : b < C) : Hb w' b W H a n c := (hk.block b hb).trans h

theorem Hb.other {w : World} {b g : Nat} {W H : Int} {a : Option Addr} {n c : Nat} (h : Hb w b W H a n c) (hb : b ≠ g) (i : Nat) (v : Value) : Hb (w.setCell ⟨g, i, none⟩ v) b W H a n c := h.keeps (Keeps.set1 w g i v) hb

theorem Hb.setW {w : World} {b : Nat} {W H : Int} {a : Option Addr} {n c : Nat} (h : Hb w b W H a n c) (x : Int) : Hb (w.setCell ⟨b, 0, none⟩ (.int .i64 x)) b x H a n c := by
  have h' : w.heap[b]? = _ := h
  simp [Hb, World.setCell, Array.getElem?_modify, h']

theorem Hb.setH {w : World} {b : Nat} {W H : Int} {a : Option Addr} {n c : Nat} (h : Hb w b W H a n c) (x : Int) : Hb (w.setCell ⟨b, 1, none⟩ (.int .i64 x)) b W x a n c := by
  have h' : w.heap[b]? = _ := h
  simp [Hb, World.setCell, Array.getElem?_modify, h']

theorem Hb.setP {w : World} {b : Nat} {W H : Int} {a : Option Addr} {n c : Nat} (h : Hb w b W H a n c) (a' : Option Addr) (n' c' : Nat) : Hb (w.setCell ⟨b, 2, none⟩ (.slice a' n' c')) b W H a' n' c' := by
  have h' : w.heap[b]? = _ := h
  simp [Hb, World.setCell, Array.getElem?_modify, h']

theorem Hb.new (w : World) (W H : Int) (a : Option Addr) (n c : Nat) : Hb (w.alloc (.cells (gdA W H a n c) 54)) w.heap.size W H a n c := heap_alloc_new w _

theorem Hb.old {w : World} {b : Nat} {W H : Int} {a : Option Addr} {n c : Nat} (h : Hb w b W H a n c) (o : Obj) : Hb (w.alloc o) b W H a n c := (Below.heap_alloc w o b h.lt).trans h

theorem Hb.drewN {w : World} {b : Nat} {W H : Int} {a : Option Addr} {n c : Nat} (h : Hb w b W H a n c) (m : Nat) : Hb (w.drewN m) b W H a n c := by unfold Hb; rw [drewN_heap]; exact h

theorem size54 : (Try.prog.info? 54).map (·.size) = some 3 := by kernel_rfl

theorem wpList_load_hb {ops : Array Oper} {rest : List Oper} {op : Oper} {a : Act} {w : World} {Q : Exit → Act → World → Prop} (hw : Region.wanted op (yielded ops a.tmps) = true) (x : Operand) (ho : op.op = .load 54 x)
    (b : Nat) (hx : a.eval x = .pointer (some ⟨b, 0, none⟩)) {W H : Int} {ad : Option Addr} {n c : Nat} (hc : Hb w b W H ad n c)
    (h : wpList Try.prog ops Q rest (a.put op.dst (.agg (gdA W H ad n c))) w) : wpList Try.prog ops Q (op :: rest) a w :=
  wpList_wanted hw fun _ hK => wp_load_row 54 x ho b hx 54 _ (0, 0) _ hc Try.underlying54 rfl size54 (hK _ _ h)


theorem Hb.range {w : World} {b : Nat} {W H : Int} {a : Option Addr} {n c : Nat} (h : Hb w b W H a n c) : w.rangeAt b 0 [.int .i64 W, .int .i64 H, .slice a n c] := by
  intro j v hv
  obtain ⟨h0, h1, h2⟩ := h.cells
  rw [Nat.zero_add]
  match j, hv with
  | 0, hv => rw [h0]; exact hv
  | 1, hv => rw [h1]; exact hv
  | 2, hv => rw [h2]; exact hv
  | j + 3, hv => simp at hv

/-- What comes of dividing a place's number by the width. -/
theorem quo_rem {p n : Nat} : Int.tmod (p : Int) (n : Int) = ((p % n : Nat) : Int) ∧ (p : Int) % (n : Int) = ((p % n : Nat) : Int) ∧ Int.tdiv (p : Int) (n : Int) = ((p / n : Nat) : Int) ∧ (p : Int) / (n : Int) = ((p / n : Nat) : Int) := by
  refine ⟨by rw [Int.tmod_eq_emod_of_nonneg (by omega)]; simp, by simp, by rw [Int.tdiv_eq_ediv_of_nonneg (by omega)]; simp, by simp⟩


theorem Gd.range {w : World} {b : Nat} {W H : Int} {a : Option Addr} {n c : Nat} (h : Gd w b W H a n c) : w.rangeAt b 0 [.int .i64 W, .int .i64 H, .slice a n c] := by
  intro j v hv
  obtain ⟨h0, h1, h2⟩ := h.cells
  rw [Nat.zero_add]
  match j, hv with
  | 0, hv => rw [h0]; exact hv
  | 1, hv => rw [h1]; exact hv
  | 2, hv => rw [h2]; exact hv
  | j + 3, hv => simp at hv

theorem size37 : (Try.prog.info? 37).map (·.size) = some 2 := by kernel_rfl

/-- The block of directions, in pieces. -/
theorem blk_pair {w : World} {b t : Nat} {D : List Int} (h : Blk w b t D) {j : Nat} (hj : 2 * j + 1 < D.length) : w.rangeAt b (2 * j) [.int .i64 (dX D j), .int .i64 (dY D j)] := by
  intro k v hv
  match k, hv with
  | 0, hv => rw [Nat.add_zero, h.cell (by omega)]; exact hv
  | 1, hv => rw [h.cell hj]; exact hv
  | k + 2, hv => simp at hv

set_option maxHeartbeats 1000000 in
theorem inside_any (W H : Nat) (a : Option Addr) (n c : Nat) (x y : Int) (w : World) :
    Calls Try.prog 88 #[.agg (gdA W H a n c), .int .i64 x, .int .i64 y] w fun e w' => e = .returned (.bool (decide (0 ≤ x ∧ x < W ∧ 0 ≤ y ∧ y < H))) ∧ Below w.heap.size w w' := by
  have B := (Below.refl w.heap.size w).alloc (Nat.le_refl _) (.cells (gdA W H a n c) 24)
  have HB := hide B
  have hG := Gd.new w W H a n c
  obtain ⟨g0, g1, -⟩ := hG.cells
  clear B hG
  by_cases x0 : 0 ≤ x
  · by_cases x1 : x < W
    · by_cases y0 : 0 ≤ y
      · go_enter Try.func88, Try.ntmps88
        go_wp2
        go_ret
        refine ⟨ret_bool ?_, HB.out⟩
        rw [Bool.eq_iff_iff]
        simp [x0, x1, y0]
      · go_enter Try.func88, Try.ntmps88
        go_wp2
        go_ret
        refine ⟨ret_bool ?_, HB.out⟩
        rw [Bool.eq_iff_iff]
        simp
        omega
    · go_enter Try.func88, Try.ntmps88
      go_wp2
      go_ret
      refine ⟨ret_bool ?_, HB.out⟩
      rw [Bool.eq_iff_iff]
      simp
      omega
  · go_enter Try.func88, Try.ntmps88
    go_wp2
    go_ret
    refine ⟨ret_bool ?_, HB.out⟩
    rw [Bool.eq_iff_iff]
    simp
    omega

theorem around_any (w : World) : Calls Try.prog 50 #[] w fun e w' => e = .returned (.slice (some ⟨w.heap.size, 0, none⟩) 4 4) ∧ w' = w.alloc (.cells (ivs D4).toArray 37) := by
  go_enter Try.func50, Try.ntmps50
  go_wp2
  go_ret
  exact ⟨rfl, rfl⟩

theorem Beside_any (p W H : Nat) (a : Option Addr) (N c : Nat) {db : Nat} (s : Value) (hs : s = .slice (some ⟨db, 0, none⟩) 4 4) (w : World) : Calls Try.prog 73 #[.agg (gdA W H a N c), .int .i64 p, s] w fun e w' => e = .returned (.func (.func 87) #[] #[.pointer (some ⟨w.heap.size + 2, 0, none⟩), .pointer (some ⟨w.heap.size + 1, 0, none⟩), .pointer (some ⟨w.heap.size, 0, none⟩)]) ∧ w' = ((w.alloc (.cells (gdA W H a N c) 24)).alloc (.cells #[.int .i64 p] 3)).alloc (.cells #[s] 77) := by
  subst hs
  go_enter Try.func73, Try.ntmps73
  go_wp2
  go_ret
  exact ⟨rfl, rfl⟩

end Go.Proofs.Ytafiaimlmdflnaa
