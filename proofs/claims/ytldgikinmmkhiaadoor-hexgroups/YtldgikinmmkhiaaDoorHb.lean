/-
  Boards of hex in blocks; the table of the six directions; lines of places, sides. No conditions beyond those that each theorem bears.
-/
import Derived.Test.YtldgikinmmkhiaaDoorHr
import Derived.Test.YtldgikinmmkhiaaDoorHm
namespace Go.Proofs.YtldgikinmmkhiaaDoor
open Go.RowKit Go.Shelf

theorem new_cell (W : World) (v : Value) (t : TypeId) : (W.alloc (.cells #[v] t)).cell? ⟨W.heap.size, 0, none⟩ = some v := by
  have h := heap_alloc_new W (.cells #[v] t)
  unfold World.cell?
  simp only [h]
  rfl

theorem old_cell {W : World} {a : Addr} {v : Value} (o : Obj) (h : W.cell? a = some v) : (W.alloc o).cell? a = some v := cell_kept h (World.grownBy_alloc W o none) (fun r e => by cases e)

theorem Keeps.after {X Y : Nat → Prop} {a b c : World} (h : Keeps X a b) (k : Keeps Y b c) (hY : ∀ i, i < a.heap.size → Y i → X i) : Keeps X a c :=
  ⟨k.os.trans h.os, k.tape.trans h.tape, k.output.trans h.output, Nat.le_trans h.size k.size, fun i hi hx => (k.block i (Nat.lt_of_lt_of_le hi h.size) (fun e => hx (hY i hi e))).trans (h.block i hi hx)⟩

def toI (l : List Nat) : List Int := l.map (fun x : Nat => (x : Int))
theorem toI_len (l : List Nat) : (toI l).length = l.length := by simp [toI]
theorem toI_snoc (l : List Nat) (x : Nat) : toI (l ++ [x]) = toI l ++ [(x : Int)] := by simp [toI]
theorem toI_append (l k : List Nat) : toI (l ++ k) = toI l ++ toI k := by simp [toI]
theorem toI_getD {L : List Nat} {j : Nat} (hj : j < L.length) : (toI L).getD j 0 = ((L.getD j 0 : Nat) : Int) := by
  simp [toI, List.getD, hj]

theorem own_below {w w' : World} {base e s n : Nat} {v : Value} {xs : List Value} (h : w.ownsRow base e s v n xs) (hb : Below w.heap.size w w') : w'.ownsRow base e s v n xs :=
  own_blk h (fun g hg => hb.block g (h.lt g hg).2)

theorem slice_form {w : World} {base e : Nat} {v : Value} {n s : Nat} {xs : List Value} (h : w.ownsRow base e s v n xs) : ∃ a c, v = .slice a n c := by
  rcases h.2 with ⟨hv, h0⟩ | ⟨g, cap, cur, hv, _⟩
  · exact ⟨none, 0, by rw [hv]; simp; omega⟩
  · exact ⟨_, _, hv⟩

theorem frozen_new (W : World) (v : Value) (t : TypeId) : (W.alloc (.cells #[v] t)).frozen? ⟨W.heap.size, 0, none⟩ = false := by
  have h1 : (W.alloc (.cells #[v] t)).heap[W.heap.size]? = some (.cells #[v] t (0, 0)) := heap_alloc_new W _
  unfold World.frozen?
  simp only [h1]
  rfl

/-- A board of hex lies in a block. -/
def Hb (w : World) (b : Nat) (W H : Int) (a : Option Addr) (n c : Nat) : Prop := w.heap[b]? = some (.cells (gdA W H a n c) 55 (0, 0))

theorem Hb.cells {w : World} {b : Nat} {W H : Int} {a : Option Addr} {n c : Nat} (h : Hb w b W H a n c) : w.cell? ⟨b, 0, none⟩ = some (.int .i64 W) ∧ w.cell? ⟨b, 1, none⟩ = some (.int .i64 H) ∧ w.cell? ⟨b, 2, none⟩ = some (.slice a n c) := by
  have h' : w.heap[b]? = _ := h
  simp [World.cell?, h']

theorem Hb.frozen {w : World} {b : Nat} {W H : Int} {a : Option Addr} {n c : Nat} (h : Hb w b W H a n c) (i : Nat) : w.frozen? ⟨b, i, none⟩ = false := by
  have h' : w.heap[b]? = _ := h
  simp [World.frozen?, h']

theorem Hb.lt {w : World} {b : Nat} {W H : Int} {a : Option Addr} {n c : Nat} (h : Hb w b W H a n c) : b < w.heap.size := (Array.getElem?_eq_some_iff.1 h).1

theorem Hb.keeps {X : Nat → Prop} {w w' : World} {b : Nat} {W H : Int} {a : Option Addr} {n c : Nat} (h : Hb w b W H a n c) (hk : Keeps X w w') (hb : ¬ X b) : Hb w' b W H a n c :=
  (hk.block b h.lt hb).trans h

theorem Hb.below {w w' : World} {b C : Nat} {W H : Int} {a : Option Addr} {n c : Nat} (h : Hb w b W H a n c) (hk : Below C w w') (hb : b < C) : Hb w' b W H a n c := (hk.block b hb).trans h

theorem Hb.other {w : World} {b g : Nat} {W H : Int} {a : Option Addr} {n c : Nat} (h : Hb w b W H a n c) (hb : b ≠ g) (i : Nat) (v : Value) : Hb (w.setCell ⟨g, i, none⟩ v) b W H a n c := h.keeps (Keeps.set1 w g i v) hb

theorem Hb.setW {w : World} {b : Nat} {W H : Int} {a : Option Addr} {n c : Nat} (h : Hb w b W H a n c) (x : Int) : Hb (w.setCell ⟨b, 0, none⟩ (.int .i64 x)) b x H a n c := by
  have h' : w.heap[b]? = _ := h
  simp [Hb, World.setCell, Array.getElem?_modify, h']

theorem Hb.setH {w : World} {b : Nat} {W H : Int} {a : Option Addr} {n c : Nat} (h : Hb w b W H a n c) (x : Int) : Hb (w.setCell ⟨b, 1, none⟩ (.int .i64 x)) b W x a n c := by
  have h' : w.heap[b]? = _ := h
  simp [Hb, World.setCell, Array.getElem?_modify, h']

theorem Hb.setP {w : World} {b : Nat} {W H : Int} {a : Option Addr} {n c : Nat} (h : Hb w b W H a n c) (a' : Option Addr) (n' c' : Nat) : Hb (w.setCell ⟨b, 2, none⟩ (.slice a' n' c')) b W H a' n' c' := by
  have h' : w.heap[b]? = _ := h
  simp [Hb, World.setCell, Array.getElem?_modify, h']

theorem Hb.new (w : World) (W H : Int) (a : Option Addr) (n c : Nat) : Hb (w.alloc (.cells (gdA W H a n c) 55)) w.heap.size W H a n c := heap_alloc_new w _

theorem Hb.old {w : World} {b : Nat} {W H : Int} {a : Option Addr} {n c : Nat} (h : Hb w b W H a n c) (o : Obj) : Hb (w.alloc o) b W H a n c := (Below.heap_alloc w o b h.lt).trans h

theorem Hb.drewN {w : World} {b : Nat} {W H : Int} {a : Option Addr} {n c : Nat} (h : Hb w b W H a n c) (m : Nat) : Hb (w.drewN m) b W H a n c := by unfold Hb; rw [drewN_heap]; exact h

theorem size55 : (Tryd.prog.info? 55).map (·.size) = some 3 := by kernel_rfl

theorem wpList_load_hb {ops : Array Oper} {rest : List Oper} {op : Oper} {a : Act} {w : World} {Q : Exit → Act → World → Prop} (hw : Region.wanted op (yielded ops a.tmps) = true) (x : Operand) (ho : op.op = .load 55 x)
    (b : Nat) (hx : a.eval x = .pointer (some ⟨b, 0, none⟩)) {W H : Int} {ad : Option Addr} {n c : Nat} (hc : Hb w b W H ad n c)
    (h : wpList Tryd.prog ops Q rest (a.put op.dst (.agg (gdA W H ad n c))) w) : wpList Tryd.prog ops Q (op :: rest) a w :=
  wpList_wanted hw fun _ hK => wp_load_row 55 x ho b hx 55 _ (0, 0) _ hc Tryd.underlying55 rfl size55 (hK _ _ h)


theorem Hb.range {w : World} {b : Nat} {W H : Int} {a : Option Addr} {n c : Nat} (h : Hb w b W H a n c) : w.rangeAt b 0 [.int .i64 W, .int .i64 H, .slice a n c] := by
  intro j v hv
  obtain ⟨h0, h1, h2⟩ := h.cells
  rw [Nat.zero_add]
  match j, hv with
  | 0, hv => rw [h0]; exact hv
  | 1, hv => rw [h1]; exact hv
  | 2, hv => rw [h2]; exact hv
  | j + 3, hv => simp at hv

/-- The table of directions, as it lies in memory. -/
def dtab : List Int := [0, -1, 1, -1, -1, 0, 1, 0, -1, 1, 0, 1]

def Tab (w : World) : Prop := ∀ i, i < 12 → w.cell? ⟨0, i, none⟩ = some (.int .i64 (dtab.getD i 0))

theorem Tab.lt {w : World} (h : Tab w) : 0 < w.heap.size := World.block_lt_of_cell? w _ (h 0 (by omega))

theorem Tab.below {w w' : World} {B : Nat} (h : Tab w) (hb : Below B w w') (hB : 0 < B) : Tab w' := fun i hi => (hb.cell (p := ⟨0, i, none⟩) hB).trans (h i hi)

theorem Tab.mono {w w' : World} (h : Tab w) (hb : Below w.heap.size w w') : Tab w' := h.below hb h.lt

theorem Tab.keeps {X : Nat → Prop} {w w' : World} (h : Tab w) (hk : Keeps X w w') (hX : ¬ X 0) : Tab w' := fun i hi => hk.cell (h i hi) hX

theorem Tab.range {w : World} (h : Tab w) : w.rangeAt 0 0 (ivs dtab) := by
  intro j v hv
  have hj : j < 12 := by have := (List.getElem?_eq_some_iff.1 hv).1; rwa [ivs_length] at this
  rw [Nat.zero_add, h j hj, ← hv]
  have hj' : j < dtab.length := hj
  simp [ivs, List.getD, hj']

theorem size86 : (Tryd.prog.info? 86).map (·.size) = some 12 := by kernel_rfl

theorem run_dir (k : Nat) (hk : k < 6) (w : World) : (Instr.index 86 (.agg (ivs dtab).toArray) (.int .i64 k)).run Tryd.prog w = .ok (.agg #[.int .i64 (dx k), .int .i64 (dy k)]) w := by
  match k, hk with
  | 0, _ => simp [Instr.index, Tryd.underlying86, run_underlying, asIntOf, part, go_sem, ivs, dtab, dx, dy]
  | 1, _ => simp [Instr.index, Tryd.underlying86, run_underlying, asIntOf, part, go_sem, ivs, dtab, dx, dy]
  | 2, _ => simp [Instr.index, Tryd.underlying86, run_underlying, asIntOf, part, go_sem, ivs, dtab, dx, dy]
  | 3, _ => simp [Instr.index, Tryd.underlying86, run_underlying, asIntOf, part, go_sem, ivs, dtab, dx, dy]
  | 4, _ => simp [Instr.index, Tryd.underlying86, run_underlying, asIntOf, part, go_sem, ivs, dtab, dx, dy]
  | 5, _ => simp [Instr.index, Tryd.underlying86, run_underlying, asIntOf, part, go_sem, ivs, dtab, dx, dy]

theorem dx_le (k : Nat) : -1 ≤ dx k ∧ dx k ≤ 1 := by unfold dx; split <;> omega
theorem dy_le (k : Nat) : -1 ≤ dy k ∧ dy k ≤ 1 := by unfold dy; split <;> omega

/-- What comes of dividing a place's number by the width. -/
theorem quo_rem {p n : Nat} : Int.tmod (p : Int) (n : Int) = ((p % n : Nat) : Int) ∧ (p : Int) % (n : Int) = ((p % n : Nat) : Int) ∧ Int.tdiv (p : Int) (n : Int) = ((p / n : Nat) : Int) ∧ (p : Int) / (n : Int) = ((p / n : Nat) : Int) := by
  refine ⟨by rw [Int.tmod_eq_emod_of_nonneg (by omega)]; simp, by simp, by rw [Int.tdiv_eq_ediv_of_nonneg (by omega)]; simp, by simp⟩

set_option maxHeartbeats 1000000 in
theorem line_any (n : Nat) (a : Option Addr) (N c p m : Nat) (hn : 1 ≤ n ∧ n ≤ 10) (hp : p < n * n) (hm : m = 1 ∨ m = 2) (w : World) :
    Calls Tryd.prog 63 #[.agg (gdA n n a N c), .int .i64 p, .int .i64 m] w fun e w' => e = .returned (.int .i64 (ln n m p : Nat)) ∧ Below w.heap.size w w' := by
  have hpb : p ≤ 100 := by
    have := Nat.mul_le_mul hn.2 hn.2
    omega
  have hwn : ¬ (n : Int) = 0 := by omega
  obtain ⟨q1, q2, q3, q4⟩ := quo_rem (p := p) (n := n)
  have B := (Below.refl w.heap.size w).alloc (Nat.le_refl _) (.cells (gdA n n a N c) 55)
  have HB := hide B
  clear B
  rcases hm with rfl | rfl
  · have HL : Hid (ln n 1 p = p / n) := hide (by simp [ln])
    have hpy := (of_place hp).2.1
    generalize p / n = py at *
    generalize p % n = px at *
    have hw3 : wrap64 (py : Int) = py := by unfold wrap64; omega
    go_enter Tryd.func63, Tryd.ntmps63
    go_wp2
    go_ret
    exact ⟨by rw [HL.out]; rfl, HB.out⟩
  · have HL : Hid (ln n 2 p = p % n) := hide (by simp [ln])
    generalize p / n = py at *
    generalize p % n = px at *
    go_enter Tryd.func63, Tryd.ntmps63
    go_wp2
    go_ret
    exact ⟨by rw [HL.out]; rfl, HB.out⟩

theorem ln_lt {n m p : Nat} (hp : p < n * n) : ln n m p < n := by
  obtain ⟨a, b, _⟩ := of_place hp
  unfold ln
  split <;> assumption

set_option maxHeartbeats 1000000 in
theorem first_any (n : Nat) (a : Option Addr) (N c p m : Nat) (hn : 1 ≤ n ∧ n ≤ 10) (hp : p < n * n) (hm : m = 1 ∨ m = 2) (w : World) :
    Calls Tryd.prog 56 #[.agg (gdA n n a N c), .int .i64 p, .int .i64 m] w fun e w' => e = .returned (.bool (decide (ln n m p = 0))) ∧ Below w.heap.size w w' := by
  have B := (Below.refl w.heap.size w).alloc (Nat.le_refl _) (.cells (gdA n n a N c) 55)
  have HS : Hid (w.heap.size ≤ (w.alloc (.cells (gdA n n a N c) 55)).heap.size) := hide B.size
  have HB := hide B
  have HC := hide (line_any n a N c p m hn hp hm (w.alloc (.cells (gdA n n a N c) 55)))
  have hG := (Hb.new w n n a N c)
  have hl := ln_lt (m := m) hp
  generalize ln n m p = L at *
  clear B
  go_enter Tryd.func56, Tryd.ntmps56
  go_wp2_with (first | (refine wpList_load_hb rfl (.tmp 3) rfl w.heap.size rfl hG ?_) | fail)
  refine HC.out.mono ?_
  rintro e w2 ⟨rfl, hb⟩
  have HB2 := hide (HB.out.trans (hb.mono HS.out))
  clear hb hG
  go_wp2_with fail
  go_ret
  refine ⟨ret_bool ?_, HB2.out⟩
  rw [Bool.eq_iff_iff]
  simp

set_option maxHeartbeats 1000000 in
theorem last_any (n : Nat) (a : Option Addr) (N c p m : Nat) (hn : 1 ≤ n ∧ n ≤ 10) (hp : p < n * n) (hm : m = 1 ∨ m = 2) (w : World) :
    Calls Tryd.prog 51 #[.agg (gdA n n a N c), .int .i64 p, .int .i64 m] w fun e w' => e = .returned (.bool (decide (ln n m p + 1 = n))) ∧ Below w.heap.size w w' := by
  have B := (Below.refl w.heap.size w).alloc (Nat.le_refl _) (.cells (gdA n n a N c) 55)
  have HS : Hid (w.heap.size ≤ (w.alloc (.cells (gdA n n a N c) 55)).heap.size) := hide B.size
  have HLT : Hid (w.heap.size < (w.alloc (.cells (gdA n n a N c) 55)).heap.size) := hide (by simp)
  have HB := hide B
  have HCA := hide (fun W => line_any n a N c p m hn hp hm W)
  have HC := hide (line_any n a N c p m hn hp hm (w.alloc (.cells (gdA n n a N c) 55)))
  have hG := (Hb.new w n n a N c)
  have HG := hide hG
  have hl := ln_lt (m := m) hp
  generalize ln n m p = L at *
  clear B
  have HNW : Hid (w.heap.size < (w.alloc (.cells (gdA n n a N c) 55)).heap.size) := hide (by simp)
  obtain ⟨w1, hw1⟩ : ∃ w1, w.alloc (.cells (gdA n n a N c) 55) = w1 := ⟨_, rfl⟩
  have HC' : Hid (∀ W, Below w1.heap.size w1 W → Calls Tryd.prog 63 #[.agg (gdA n n a N c), .int .i64 p, .int .i64 m] W fun e w' => e = .returned (.int .i64 (L : Nat)) ∧ Below W.heap.size W w') := hide (fun W _ => HCA.out W)
  rw [hw1] at HB HS HLT HG HNW
  have HGR : Hid (∀ W4, Below w1.heap.size w1 W4 → W4.rangeAt w.heap.size 0 [.int .i64 n, .int .i64 n, .slice a N c]) := hide (fun W4 hb => (HG.out.below hb HLT.out).range)
  have HGC : Hid (∀ W4, Below w1.heap.size w1 W4 → W4.cell? ⟨w.heap.size, 0, none⟩ = some (.int .i64 n)) := hide (fun W4 hb => (HG.out.below hb HLT.out).cells.1)
  clear hG HC HCA
  go_enter Tryd.func51, Tryd.ntmps51
  go_upto_region 1 with fail
  clear hw1
  refine wp_region_held (S := fun W4 => Below w1.heap.size w1 W4) (by kernel_rfl) ?_
  change wpAnyH _ _ _ _ _ _ _ _ (World.drew _)
  have SW : Below w1.heap.size w1 w1.drew := (Below.refl _ w1).drew
  refine wpAnyH_take (i := 0) (v := .agg (gdA n n a N c)) rfl (by kernel_rfl) (by kernel_rfl) (by kernel_rfl) (fun _ _ _ h => h) (yieldsIf_load_mid (by rfl) 55 _ rfl w.heap.size 0 (by rfl) [.int .i64 n, .int .i64 n, .slice a N c] _ (fun W hW => HGR.out W hW) Tryd.underlying55 rfl size55) SW ?_
  go_simp
  refine wpAnyH_take (i := 1) (v := .int .i64 p) rfl (by kernel_rfl) (by kernel_rfl) (by kernel_rfl) (fun _ _ _ h => h) (Or.inl ⟨by rfl, ?_⟩) SW ?_
  · intro W4 hW4
    have x0 := HGC.out W4 hW4
    go_simp <;> first | done | rfl | (rw [IntKind.wrap_i64]; omega) | omega
  go_simp
  refine wpAnyH_take (i := 2) (v := .int .i64 m) rfl (by kernel_rfl) (by kernel_rfl) (by kernel_rfl) (fun _ _ _ h => h) (Or.inl ⟨by rfl, ?_⟩) SW ?_
  · intro W4 hW4
    have x0 := HGC.out W4 hW4
    go_simp <;> first | done | rfl | (rw [IntKind.wrap_i64]; omega) | omega
  go_simp
  refine wpAnyH_take (i := 4) (v := .pointer (some ⟨w.heap.size, 0, none⟩)) rfl (by kernel_rfl) (by kernel_rfl) (by kernel_rfl) (fun _ _ _ h => h) (Or.inl ⟨by rfl, ?_⟩) SW ?_
  · intro W4 hW4
    have x0 := HGC.out W4 hW4
    go_simp <;> first | done | rfl | (rw [IntKind.wrap_i64]; omega) | omega
  go_simp
  refine wpAnyH_take (i := 5) (v := .pointer (some ⟨w.heap.size, 0, none⟩)) rfl (by kernel_rfl) (by kernel_rfl) (by kernel_rfl) (fun _ _ _ h => h) (Or.inl ⟨by rfl, ?_⟩) SW ?_
  · intro W4 hW4
    have x0 := HGC.out W4 hW4
    go_simp <;> first | done | rfl | (rw [IntKind.wrap_i64]; omega) | omega
  go_simp
  refine wpAnyH_take (i := 6) (v := .int .i64 n) rfl (by kernel_rfl) (by kernel_rfl) (by kernel_rfl) (fun _ _ _ h => h) (Or.inl ⟨by rfl, ?_⟩) SW ?_
  · intro W4 hW4
    have x0 := HGC.out W4 hW4
    go_simp <;> first | done | rfl | (rw [IntKind.wrap_i64]; omega) | omega
  go_simp
  refine wpAnyH_take (i := 7) (v := .int .i64 ((n : Int) - 1)) rfl (by kernel_rfl) (by kernel_rfl) (by kernel_rfl) (fun _ _ _ h => h) (Or.inl ⟨by rfl, ?_⟩) SW ?_
  · intro W4 hW4
    have x0 := HGC.out W4 hW4
    go_simp <;> first | done | rfl | (rw [IntKind.wrap_i64]; omega) | omega
  go_simp
  refine wpAnyH_ready (rs := [3]) (by kernel_rfl) (by simp) ?_
  refine AllReadyH.cons rfl (fun K1 hK1 => ?_) AllReadyH.nil
  go_simp
  refine (HC'.out _ SW).mono ?_
  rintro e w2 ⟨rfl, hb⟩
  have SW2 : Below w1.heap.size w1 w2 := SW.trans (hb.mono (by simp))
  refine hK1.out _ _ SW2 (fun SW => ?_)
  refine wpAnyH_take (i := 8) (v := .bool ((L : Int) == (n : Int) - 1)) rfl (by kernel_rfl) (by kernel_rfl) (by kernel_rfl) (fun _ _ _ h => h) (Or.inl ⟨by rfl, ?_⟩) SW ?_
  · intro W4 hW4
    go_simp <;> first | done | rfl | (rw [IntKind.wrap_i64]; omega) | omega
  go_simp
  refine wpAnyH_take (i := 9) (v := .bool ((L : Int) == (n : Int) - 1)) rfl (by kernel_rfl) (by kernel_rfl) (by kernel_rfl) (fun _ _ _ h => h) (Or.inl ⟨by rfl, ?_⟩) SW ?_
  · intro W4 hW4
    go_simp <;> first | done | rfl | (rw [IntKind.wrap_i64]; omega) | omega
  go_simp
  refine wpAnyH_done (by kernel_rfl) ?_ _
  go_wp2_with fail
  go_ret
  refine ⟨ret_bool ?_, HB.out.trans (SW2.mono HS.out)⟩
  rw [Bool.eq_iff_iff]
  simp
  omega

end Go.Proofs.YtldgikinmmkhiaaDoor
