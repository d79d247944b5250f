/-
  Rows of yes and no; the document's questions about places. No conditions beyond those that each theorem bears.
-/
import Derived.Test.YtafiaimlmdflnaaHs
namespace Go.Proofs.Ytafiaimlmdflnaa
open Go.RowKit Go.Shelf

/-- A row of yes and no. -/
def bl (N : Nat) (S : Nat → Bool) : List Value := (List.range N).map fun q => Value.bool (S q)

theorem bl_len (N : Nat) (S : Nat → Bool) : (bl N S).length = N := by simp [bl]
theorem bl_at {N : Nat} {S : Nat → Bool} {q : Nat} (hq : q < N) : (bl N S)[q]? = some (.bool (S q)) := by
  unfold bl
  rw [List.getElem?_map, List.getElem?_range hq]
  rfl
theorem bl_congr {N : Nat} {S T : Nat → Bool} (h : ∀ q, q < N → S q = T q) : bl N S = bl N T := by
  unfold bl
  exact List.map_congr_left fun q hq => by rw [h q (List.mem_range.1 hq)]
/-- One place more is told. -/
def upd (S : Nat → Bool) (q : Nat) (b : Bool) : Nat → Bool := fun r => if r = q then b else S r
theorem bl_set {N : Nat} {S : Nat → Bool} {q : Nat} {b : Bool} : (bl N S).set q (.bool b) = bl N (upd S q b) := by
  apply List.ext_getElem?
  intro i
  by_cases hi : i < N
  · rw [bl_at hi, List.getElem?_set]
    unfold upd
    by_cases e : q = i
    · subst e
      have : q < (bl N S).length := by rw [bl_len]; exact hi
      simp [this]
    · rw [if_neg e, bl_at hi, if_neg (fun h => e h.symm)]
  · rw [List.getElem?_eq_none (by rw [List.length_set, bl_len]; omega), List.getElem?_eq_none (by rw [bl_len]; omega)]
theorem bl_made (N : Nat) : (madeCells (Value.bool false).cells (N * 1)).toList = bl N (fun _ => false) := by
  rw [Nat.mul_one, show (Value.bool false).cells = #[Value.bool false] from rfl, toList_madeCells_one]
  unfold bl
  rw [List.map_const']
  simp

/-- A row of yes and no in memory. -/
def Bm (V : World) (g N : Nat) (S : Nat → Bool) : Prop := V.ownsRow 0 4 1 (.slice (some ⟨g, 0, none⟩) N N) N (bl N S)

section
variable {V V' : World} {g N : Nat} {S : Nat → Bool} {X : Nat → Prop}
theorem Bm.cell (h : Bm V g N S) {q : Nat} (hq : q < N) : V.cell? ⟨g, q, none⟩ = some (.bool (S q)) := by
  have := World.ownsRow.cellAt h q (by omega)
  rw [this, bl_at hq]
theorem Bm.frozen (h : Bm V g N S) (q : Nat) : V.frozen? ⟨g, q, none⟩ = false := World.ownsRow.frozenAt h q
theorem Bm.set (h : Bm V g N S) (q : Nat) (b : Bool) : Bm (V.setCell ⟨g, q, none⟩ (.bool b)) g N (upd S q b) := by
  have := (World.ownsRow.stored h q (.bool b)).1
  unfold Bm
  rw [← bl_set]
  exact this
theorem Bm.keeps (h : Bm V g N S) (hk : Keeps X V V') (hX : ¬ X g) : Bm V' g N S :=
  own_blk h (fun b hb => by
    simp only [Value.ownBlock, Option.some.injEq] at hb
    subst hb
    exact hk.block _ (World.ownsRow.lt h _ rfl).2 hX)
theorem Bm.mono (h : Bm V g N S) (hb : Below V.heap.size V V') : Bm V' g N S := h.keeps (X := fun _ => False) (Keeps.of_all hb) (fun h => h)
theorem Bm.lt (h : Bm V g N S) : g < V.heap.size := (World.ownsRow.lt h g rfl).2
theorem Bm.congr (h : Bm V g N S) {T : Nat → Bool} (e : ∀ q, q < N → S q = T q) : Bm V g N T := by unfold Bm; rw [← bl_congr e]; exact h
theorem Bm.max (h : Bm V g N S) : N ≤ maxLen := by
  rcases h.2 with ⟨hv, _⟩ | ⟨g', cap, cur, hv, hb, hg, hnc, hcm, hcs, ht⟩
  · cases hv
  · omega
end

theorem own_baseB {w : World} {base e s : Nat} {v : Value} {n : Nat} {xs : List Value} (h : w.ownsRow base e s v n xs) : w.ownsRow 0 e s v n xs := by
  refine ⟨h.1, ?_⟩
  rcases h.2 with h2 | ⟨g, cap, cur, h1, h2, h3⟩
  · exact Or.inl h2
  · exact Or.inr ⟨g, cap, cur, h1, Nat.zero_le _, h3⟩

theorem info4 : (Try.prog.info? 4).map (fun i => (i.zero, i.size, i.bytes)) = some (some (.bool false), 1, 1) := by kernel_rfl

attribute [local irreducible] D4 bl

set_option maxRecDepth 100000 in
set_option maxHeartbeats 4000000 in
theorem marks_any (W H : Int) (cb co N bc : Nat) (Z : List Int) (c : Int) (o : Bool) (w : World) (hN : N ≤ 100) (hR : Rd w (some ⟨cb, co, none⟩) N bc Z) :
    Calls Try.prog 39 #[.agg (gdA W H (some ⟨cb, co, none⟩) N bc), .int .i64 c, .bool o] w fun e w' => ∃ g, e = .returned (.slice (some ⟨g, 0, none⟩) N N) ∧ Bm w' g N (fun q => decide (Z.getD q 0 = c) != o) ∧ w.heap.size ≤ g ∧ Below w.heap.size w w' := by
  obtain ⟨i0, hi, hz0, hz1, hz2⟩ := info_parts info4
  obtain ⟨w1, hw1⟩ : ∃ w1, w.alloc (.cells (gdA W H (some ⟨cb, co, none⟩) N bc) 24) = w1 := ⟨_, rfl⟩
  have B1 : Below w.heap.size w w1 := by rw [← hw1]; exact (Below.refl _ _).alloc (Nat.le_refl _) _
  have G1 : Gd w1 w.heap.size W H (some ⟨cb, co, none⟩) N bc := by rw [← hw1]; exact Gd.new w W H _ N bc
  have HB1 := hide B1
  have HG1 := hide G1
  have HR1 := hide (hR.mono B1)
  obtain ⟨-, -, g2⟩ := G1.cells
  have hcap := hR.cap
  have hmx : bc ≤ 9223372036854775807 := by have := hR.max; unfold maxLen at this; omega
  have hmm : N ≤ maxLen := by unfold maxLen; omega
  have hby : i0.bytes * N ≤ 281474976710656 := by rw [hz2]; omega
  clear B1 G1 hR
  go_enter Try.func39, Try.ntmps39
  go_upto_region 1 with fail
  clear hw1
  go_wp2_with (at_make; refine wpList_make_full w1 rfl _ _ 60 rfl w1.heap.size 4 i0 (.bool false) 1 Try.underlying60 hi hz0 hz1 _ _ _ _ N rfl rfl rfl rfl hby hmm (Nat.le_refl _) ?_)
  intro w2 hO hg2
  have HM0 : Hid (Bm w2 w1.heap.size N (fun _ => false)) := hide (by unfold Bm; rw [← bl_made]; exact own_baseB (by rw [Nat.mul_one, show (Value.bool false).cells = #[Value.bool false] from rfl]; exact hO))
  have HB2 : Hid (Below w1.heap.size w1 w2) := hide ((Below.refl _ _).grown hg2 (Nat.le_refl _) (fun j hj => by cases hj))
  clear hO hg2 hi hz0 hz1 hz2 hby g2
  go_wp2_with fail
  go_loopw [8] (fun v wr => ∃ j : Nat, v = .int .i64 j ∧ j ≤ N ∧ Hid (Bm wr w1.heap.size N (fun q => if q < j then decide (Z.getD q 0 = c) != o else false)) ∧ Hid (Below w1.heap.size w1 wr)) (fun v _ => N - (intOf v).toNat)
  case atStart => exact ⟨0, rfl, by omega, hide (HM0.out.congr (fun q _ => by simp)), HB2⟩
  case round =>
    obtain ⟨j, rfl, hjN, hM, hB⟩ := hrel
    clear HM0 HB2
    by_cases hj : j < N
    · have hj' : (j : Int) < (N : Int) := by omega
      obtain ⟨-, -, g2⟩ := (HG1.out.below hB.out HG1.out.lt).cells
      have cz := ((HR1.out.mono hB.out).cell hj).2
      have cm := hM.out.cell hj
      have fm := hM.out.frozen j
      obtain ⟨z, hz⟩ : ∃ z, Z.getD j 0 = z := ⟨_, rfl⟩
      rw [hz] at cz
      have HM3 : Hid (Bm (wr.setCell ⟨w1.heap.size, j, none⟩ (.bool ((z == c) != o))) w1.heap.size N (fun q => if q < j + 1 then decide (Z.getD q 0 = c) != o else false)) := hide ((hM.out.set j ((z == c) != o)).congr (fun q hq => by
        unfold upd
        by_cases e : q = j
        · subst e
          rw [if_pos rfl, if_pos (by omega), hz]
          congr 1
        · rw [if_neg e]
          by_cases h2 : q < j
          · show (if q < j then _ else _) = _
            rw [if_pos h2, if_pos (by omega)]
          · show (if q < j then _ else _) = _
            rw [if_neg h2, if_neg (by omega)]))
      have HB3 : Hid (Below w1.heap.size w1 (wr.setCell ⟨w1.heap.size, j, none⟩ (.bool ((z == c) != o)))) := hide (hB.out.setCell (p := ⟨w1.heap.size, j, none⟩) (Nat.le_refl _) _)
      clear hM hB hz
      go_wp2_with fail
      exact ⟨⟨j + 1, rfl, by omega, HM3, HB3⟩, by simp only [intOf]; omega⟩
    · obtain rfl : j = N := by omega
      go_wp2_with fail
      go_ret
      refine ⟨w1.heap.size, rfl, hM.out.congr (fun q hq => by rw [if_pos hq]), HB1.out.size, HB1.out.trans (hB.out.mono HB1.out.size)⟩

/-- The places that a row tells yes of. -/
def yes (N : Nat) (S : Nat → Bool) : List Nat := (List.range N).filter S

theorem yes_succ_y {S : Nat → Bool} {j : Nat} (h : S j = true) : yes (j + 1) S = yes j S ++ [j] := by
  unfold yes; rw [List.range_succ, List.filter_append]; simp [h]
theorem yes_succ_n {S : Nat → Bool} {j : Nat} (h : S j = false) : yes (j + 1) S = yes j S := by
  unfold yes; rw [List.range_succ, List.filter_append]; simp [h]
theorem yes_len (N : Nat) (S : Nat → Bool) : (yes N S).length ≤ N := by
  unfold yes
  exact Nat.le_trans (List.length_filter_le _ _) (by simp)
theorem yes_pls {N : Nat} {S : Nat → Bool} {P : Nat → Prop} (h : ∀ q, q < N → (S q = true ↔ P q)) : yes N S = pls N P := by
  unfold yes pls
  refine List.filter_congr fun q hq => ?_
  rw [Bool.eq_iff_iff, @decide_eq_true_iff _ (Classical.propDecidable _)]
  exact h q (List.mem_range.1 hq)

end Go.Proofs.Ytafiaimlmdflnaa
