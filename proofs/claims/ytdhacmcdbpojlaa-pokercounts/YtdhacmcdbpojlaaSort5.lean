/-
  Five numbers sorted by slices.Sort. No conditions beyond those that each theorem bears.
-/
import Derived.Test.YtdhacmcdbpojlaaVal2
import Derived.Test.YtdhacmcdbpojlaaShelf
namespace Go.Proofs.Ytdhacmcdbpojlaa
open Go.RowKit Go.Shelf

theorem setCell_id {w : World} {b i : Nat} {v : Value} (h : w.cell? ⟨b, i, none⟩ = some v) : w.setCell ⟨b, i, none⟩ v = w := by
  rw [Go.Sort.setCell_eq]
  refine Go.Sort.mapBlock_id w b _ fun c e fr hb => ?_
  simp [World.cell?, hb] at h
  apply Array.ext_getElem?
  intro j
  rw [Array.getElem?_setIfInBounds]
  split
  · rename_i hj; subst hj
    split
    · exact h.symm
    · rename_i hn; simp [Array.getElem?_eq_none (Nat.le_of_not_lt hn)] at h
  · rfl

theorem load51 (w : World) (b : Nat) (x0 x1 x2 x3 x4 : Int) (h0 : w.cell? ⟨b, 0, none⟩ = some (.int .i64 x0)) (h1 : w.cell? ⟨b, 1, none⟩ = some (.int .i64 x1)) (h2 : w.cell? ⟨b, 2, none⟩ = some (.int .i64 x2)) (h3 : w.cell? ⟨b, 3, none⟩ = some (.int .i64 x3)) (h4 : w.cell? ⟨b, 4, none⟩ = some (.int .i64 x4)) :
    (loadVar 48 ⟨b, 0, none⟩).run Try.prog w = .ok (.agg #[.int .i64 x0, .int .i64 x1, .int .i64 x2, .int .i64 x3, .int .i64 x4]) w := by
  simp [loadVar, go_sem, h0, h1, h2, h3, h4]

theorem results_c3 {fn : Func} {t u v : Tmp} (h : fn.results = #[.cell t 48, .tmp u, .tmp v]) (tmps : Array Value) (w : World) (b : Nat) (hb : tmps.getD t undef = .pointer (some ⟨b, 0, none⟩)) (x0 x1 x2 x3 x4 : Int) (h0 : w.cell? ⟨b, 0, none⟩ = some (.int .i64 x0)) (h1 : w.cell? ⟨b, 1, none⟩ = some (.int .i64 x1)) (h2 : w.cell? ⟨b, 2, none⟩ = some (.int .i64 x2)) (h3 : w.cell? ⟨b, 3, none⟩ = some (.int .i64 x3)) (h4 : w.cell? ⟨b, 4, none⟩ = some (.int .i64 x4)) :
    (results fn tmps).run Try.prog w = .ok (.tuple #[.agg #[.int .i64 x0, .int .i64 x1, .int .i64 x2, .int .i64 x3, .int .i64 x4], tmps.getD u undef, tmps.getD v undef]) w := by
  have hl := load51 w b x0 x1 x2 x3 x4 h0 h1 h2 h3 h4
  have hb' : tmps[t]?.getD undef = .pointer (some ⟨b, 0, none⟩) := by simpa using hb
  have ha : (asAddr (.pointer (some ⟨b, 0, none⟩))).run Try.prog w = .ok ⟨b, 0, none⟩ w := rfl
  simp [results, h, hb', ha, hl, Sem.run_bind, Result.andThen]

theorem load3 (w : World) (b : Nat) (x : Int) (h0 : w.cell? ⟨b, 0, none⟩ = some (.int .i64 x)) : (loadVar 3 ⟨b, 0, none⟩).run Try.prog w = .ok (.int .i64 x) w := by
  simp [loadVar, go_sem, h0]

theorem results_cc {fn : Func} {t u : Tmp} (h : fn.results = #[.cell t 3, .cell u 48]) (tmps : Array Value) (w : World) (b b' : Nat) (hb : tmps.getD t undef = .pointer (some ⟨b, 0, none⟩)) (hb2 : tmps.getD u undef = .pointer (some ⟨b', 0, none⟩)) (x x0 x1 x2 x3 x4 : Int) (hx : w.cell? ⟨b, 0, none⟩ = some (.int .i64 x)) (h0 : w.cell? ⟨b', 0, none⟩ = some (.int .i64 x0)) (h1 : w.cell? ⟨b', 1, none⟩ = some (.int .i64 x1)) (h2 : w.cell? ⟨b', 2, none⟩ = some (.int .i64 x2)) (h3 : w.cell? ⟨b', 3, none⟩ = some (.int .i64 x3)) (h4 : w.cell? ⟨b', 4, none⟩ = some (.int .i64 x4)) :
    (results fn tmps).run Try.prog w = .ok (.tuple #[.int .i64 x, .agg #[.int .i64 x0, .int .i64 x1, .int .i64 x2, .int .i64 x3, .int .i64 x4]]) w := by
  have hl := load51 w b' x0 x1 x2 x3 x4 h0 h1 h2 h3 h4
  have hl3 := load3 w b x hx
  have hb' : tmps[t]?.getD undef = .pointer (some ⟨b, 0, none⟩) := by simpa using hb
  have hb2' : tmps[u]?.getD undef = .pointer (some ⟨b', 0, none⟩) := by simpa using hb2
  have ha : (asAddr (.pointer (some ⟨b, 0, none⟩))).run Try.prog w = .ok ⟨b, 0, none⟩ w := rfl
  have ha2 : (asAddr (.pointer (some ⟨b', 0, none⟩))).run Try.prog w = .ok ⟨b', 0, none⟩ w := rfl
  simp [results, h, hb', hb2', ha, ha2, hl, hl3, Sem.run_bind, Result.andThen]

def ins (x : Nat) : List Nat → List Nat
  | [] => [x]
  | y :: l => if x ≤ y then x :: y :: l else y :: ins x l

def isort : List Nat → List Nat
  | [] => []
  | x :: l => ins x (isort l)

theorem ins_perm (x : Nat) (l : List Nat) : (ins x l).Perm (x :: l) := by
  induction l with
  | nil => exact List.Perm.refl _
  | cons y l ih =>
    unfold ins
    split
    · exact List.Perm.refl _
    · exact (List.Perm.cons y ih).trans (List.Perm.swap x y l)

theorem isort_perm (l : List Nat) : (isort l).Perm l := by
  induction l with
  | nil => exact List.Perm.refl _
  | cons x l ih => exact (ins_perm x _).trans (List.Perm.cons x ih)

theorem ins_sorted (x : Nat) (l : List Nat) (h : l.Pairwise (· ≤ ·)) : (ins x l).Pairwise (· ≤ ·) := by
  induction l with
  | nil => simp [ins]
  | cons y l ih =>
    unfold ins
    rw [List.pairwise_cons] at h
    split
    · rename_i hxy
      rw [List.pairwise_cons, List.pairwise_cons]
      refine ⟨fun z hz => ?_, h⟩
      rcases List.mem_cons.1 hz with rfl | hz
      · exact hxy
      · exact Nat.le_trans hxy (h.1 z hz)
    · rename_i hxy
      rw [List.pairwise_cons]
      refine ⟨fun z hz => ?_, ih h.2⟩
      rcases List.mem_cons.1 ((ins_perm x l).mem_iff.1 hz) with rfl | hz
      · omega
      · exact h.1 z hz

theorem isort_sorted (l : List Nat) : (isort l).Pairwise (· ≤ ·) := by
  induction l with
  | nil => exact List.Pairwise.nil
  | cons x l ih => exact ins_sorted x _ ih

theorem isort_of_perm {l l' : List Nat} (h : l.Perm l') : isort l = isort l' :=
  List.Perm.eq_of_pairwise (le := (· ≤ ·)) (fun _ _ _ _ h1 h2 => Nat.le_antisymm h1 h2) (isort_sorted l) (isort_sorted l') (((isort_perm l).trans h).trans (isort_perm l').symm)

theorem merge_toI (l : List Nat) : (toI l).mergeSort (fun x y => decide (x ≤ y)) = toI (isort l) := by
  refine List.Perm.eq_of_pairwise (le := fun x y : Int => decide (x ≤ y) = true) ?_ (List.pairwise_mergeSort ?_ ?_ _) ?_ ?_
  · intro a b _ _ h1 h2; simp at h1 h2; omega
  · intro a b c h1 h2; simp at h1 h2 ⊢; omega
  · intro a b; simp; omega
  · have := isort_sorted l
    rw [toI, List.pairwise_map]
    exact this.imp (fun h => by simp; omega)
  · exact (List.mergeSort_perm _ _).trans ((isort_perm l).map _).symm

theorem isort_length (l : List Nat) : (isort l).length = l.length := (isort_perm l).length_eq

open Go.Sort in
theorem sort5_any (blk : Nat) (zs : List Nat) (h5 : zs.length = 5) (w : World) (hc : ∀ i, i < 5 → w.cell? ⟨blk, i, none⟩ = some (.int .i64 (zs.getD i 0)) ∧ w.frozen? ⟨blk, i, none⟩ = false) :
    Calls Try.prog 49 #[.slice (some ⟨blk, 0, none⟩) 5 5] w fun e w' => e = .returned (.tuple #[]) ∧ Keeps (fun k => k = blk) w w' ∧ w.heap.size ≤ w'.heap.size ∧
      ∀ i, i < 5 → w'.cell? ⟨blk, i, none⟩ = some (.int .i64 ((isort zs).getD i 0)) := by
  have hlt : blk < w.heap.size := World.block_lt_of_cell? w _ (hc 0 (by omega)).1
  have hH : Holds (Value.int .i64) w blk 0 (toI zs).toArray := by
    intro j hj
    have hj5 : j < 5 := by simpa [toI, h5] using hj
    rw [Nat.zero_add]
    refine ⟨?_, (hc j hj5).2⟩
    rw [(hc j hj5).1, ← toI_getD]
    simp [List.getD, toI, h5, hj5]
  have h := Try.slices_Sort_int blk 0 5 (toI zs) w hH hlt (by simp [toI, h5])
  rw [show (toI zs).length = 5 by simp [toI, h5]] at h
  refine h.mono ?_
  rintro e w' ⟨rfl, n, os, rfl⟩
  rw [merge_toI]
  have hsz : (putRow (Value.int .i64) (Sort.ahead w n) blk 0 (toI (isort zs)).toArray).heap.size = w.heap.size := by simp
  refine ⟨rfl, ⟨rfl, rfl, rfl, by simp [grow], fun k hk hne => ?_⟩, by simp [grow], fun i hi => ?_⟩
  · rw [heap_grow_old _ _ (by rw [hsz]; exact hk)]
    have hne' : ¬ blk = k := fun e => hne e.symm
    simp [putRow, mapBlock, Sort.ahead, Array.getElem?_modify, hne']
  · rw [cell?_grow _ _ _ (by rw [hsz]; exact hlt)]
    have := cell?_putRow (Value.int .i64) (Sort.ahead w n) blk 0 (toI zs).toArray (toI (isort zs)).toArray (holds_ahead _ _ _ _ _ _ hH) (by simp [toI, isort_length]) i (by simp [toI, isort_length, h5]; exact hi)
    rw [Nat.zero_add] at this
    rw [this, ← toI_getD]
    simp [List.getD, toI, isort_length, h5, hi]

end Go.Proofs.Ytdhacmcdbpojlaa
