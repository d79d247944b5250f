/-
  What a side's allHome and anyBehind answer. No conditions beyond those that each theorem bears.
-/
import Derived.Test.YtmboikpcbkiepaaSd
namespace Go.Proofs.Ytmboikpcbkiepaa
open Go.RowKit

theorem guard52 : Try.prog.eqGuardType Try.prog.depth 52 = false := by kernel_rfl

theorem wpList_eq26 {ops : Array Oper} {rest : List Oper} {o : Oper} {a : Act} {w : World} {Q : Exit → Act → World → Prop} (hgd : o.guard = none) (x y : Operand) (ho : o.op = .binOp .eql 52 x y 52)
    (A B : List Int) (hA : A.length = 26) (hB : B.length = 26) (hx : a.eval x = .agg (ivs A).toArray) (hy : a.eval y = .agg (ivs B).toArray)
    (h : wpList Try.prog ops Q rest (a.put o.dst (.bool (decide (A = B)))) w) : wpList Try.prog ops Q (o :: rest) a w := by
  refine wpList_plain hgd fun _ hK => ?_
  unfold Oper.wp execOp
  have h1 := run_eqGuard_agg (P := Try.prog) w .eql 52 x y (ivs A).toArray (ivs B).toArray guard52
  have h2 := eq26 w A B hA hB
  simp only [ho, hx, hy, Sem.run_bind, h1, h2, Result.andThen_ok]
  exact hK _ _ h

/-- All men stand on the last six points. -/
def homeB (S : List Int) : Bool := (List.range 26).all fun i => decide (7 ≤ i → S.getD i 0 = 0)

theorem homeB_iff (S : List Int) : homeB S = true ↔ ∀ i, 7 ≤ i → i < 26 → S.getD i 0 = 0 := by
  unfold homeB
  rw [List.all_eq_true]
  simp only [List.mem_range, decide_eq_true_eq]
  exact ⟨fun h i a b => h i b a, fun h i a b => h i b a⟩

theorem getD_set (L : List Int) (i j : Nat) (x : Int) (hi : i < L.length) : (L.set i x).getD j 0 = if j = i then x else L.getD j 0 := by
  simp only [List.getD, List.getElem?_set]
  by_cases h : i = j
  · subst h; simp [hi]
  · rw [if_neg h, if_neg (fun e => h e.symm)]

theorem rep0 (n r : Nat) : (List.replicate n (0 : Int)).getD r 0 = 0 := by
  simp only [List.getD, List.getElem?_replicate]
  split <;> rfl

theorem take_getD (L : List Int) (n i : Nat) (h : i < n) : (L.take n).getD i 0 = L.getD i 0 := by
  simp [List.getD, h]

theorem Blk.range26 {w : World} {b t : Nat} {T : List Int} (h : Blk w b t T) : w.rangeAt b 0 (ivs (T.take 26)) := by
  intro j v hv
  have hj : j < (T.take 26).length := by have := (List.getElem?_eq_some_iff.1 hv).1; rwa [ivs_length] at this
  have hj2 : j < T.length := by rw [List.length_take] at hj; omega
  have hj3 : j < 26 := by rw [List.length_take] at hj; omega
  rw [Nat.zero_add, h.cell hj2, ← hv]
  simp [ivs, List.getD, hj2, hj3]

set_option maxRecDepth 100000 in
set_option maxHeartbeats 4000000 in
theorem allHome_any (S : List Int) (hS : S.length = 52) (w : World) :
    Calls Try.prog 50 #[.agg (ivs S).toArray] w fun e w' => e = .returned (.bool (homeB S)) ∧ Below w.heap.size w w' := by
  go_enter Try.func50, Try.ntmps50
  go_wp2_with fail
  obtain ⟨w1, hw1⟩ : ∃ w1, (w.alloc (Obj.cells (ivs S).toArray 54)).alloc (Obj.cells (ivs (List.replicate 26 0)).toArray 52) = w1 := ⟨_, rfl⟩
  have K0 : Blk w1 w.heap.size 54 S := by rw [← hw1]; exact (Blk.new w 54 S _ rfl).old _
  have K1 : Blk w1 (w.heap.size + 1) 52 (List.replicate 26 0) := by
    rw [← hw1]
    have := Blk.new (w.alloc (Obj.cells (ivs S).toArray 54)) 52 (List.replicate 26 0) _ rfl
    rw [World.size_alloc] at this
    exact this
  have B1 : Below w.heap.size w w1 := by rw [← hw1]; exact ((Below.refl _ w).alloc (Nat.le_refl _) _).alloc (by simp) _
  have HK0 := hide K0
  go_loopw [5] (fun v wr => ∃ (k : Nat) (T : List Int), v = .int .i64 k ∧ k ≤ 7 ∧ Hid (Blk wr (w.heap.size + 1) 52 T) ∧ Hid (T.length = 26) ∧ Hid (∀ r, r < 26 → T.getD r 0 = if r < k then S.getD r 0 else 0) ∧ Hid (Blk wr w.heap.size 54 S) ∧ Hid (Below w.heap.size w wr)) (fun v _ => 7 - (intOf v).toNat)
  case atStart => 
    refine ⟨0, List.replicate 26 0, rfl, by omega, ?_, rfl, fun r hr => by rw [rep0]; simp, ?_, ?_⟩
    · rw [← hw1] at K1; exact K1
    · rw [← hw1] at K0; exact K0
    · rw [← hw1] at B1; exact B1
  case round =>
    clear K0 K1 B1 hw1 HK0
    obtain ⟨k, T, rfl, hk, hT, hTl, hTc, hZ, hB⟩ := hrel
    by_cases hlt' : k < 7
    · have hkn : (k : Int) < 7 := by omega
      have c1 := hZ.out.cell (i := k) (by omega)
      have f1 := hT.out.frozen k
      have t1 := hT.out.cell (i := k) (by rw [hTl.out]; omega)
      obtain ⟨z, hz⟩ : ∃ z, S.getD k 0 = z := ⟨_, rfl⟩
      rw [hz] at c1
      have HZ := hide hz
      clear hz
      go_wp2
      refine ⟨⟨k + 1, T.set k z, by go_num, by omega, hT.out.set k z, ?_, ?_, hZ.out.other (by omega) _ _, hB.out.setCell (by simp) _⟩, by simp [intOf]; omega⟩
      · show _ = _
        rw [List.length_set]; exact hTl.out
      · intro r' hr'
        rw [getD_set _ _ _ _ (by rw [hTl.out]; omega), hTc.out r' hr']
        by_cases e' : r' = k
        · subst e'; rw [if_pos rfl, if_pos (by omega), HZ.out]
        · rw [if_neg e']
          by_cases e2 : r' < k
          · rw [if_pos e2, if_pos (by omega)]
          · rw [if_neg e2, if_neg (by omega)]
    · obtain rfl : k = 7 := by omega
      have hTT : Hid (decide (T = S.take 26) = homeB S) := hide (by
        rw [Bool.eq_iff_iff]
        rw [homeB_iff, decide_eq_true_eq]
        constructor
        · intro e i h7 h26
          have := hTc.out i h26
          rw [e, take_getD _ _ _ h26, if_neg (by omega)] at this
          exact this
        · intro e
          refine getD_ext T (S.take 26) 26 hTl.out (by rw [List.length_take]; omega) fun i hi => ?_
          rw [hTc.out i hi, take_getD _ _ _ hi]
          by_cases e2 : i < 7
          · rw [if_pos e2]
          · rw [if_neg e2, e i (by omega) hi])
      have RT := hide hT.out.range
      have RS := hide hZ.out.range26
      go_wp2_with (first
        | refine wpList_load_mid rfl 52 (.tmp 3) rfl (w.heap.size + 1) 0 rfl (ivs T) _ RT.out Try.underlying52 rfl (by rw [ivs_length, hTl.out]; exact size52) ?_
        | refine wpList_load_mid rfl 52 (.tmp 16) rfl (w.heap.size) 0 rfl (ivs (S.take 26)) _ RS.out Try.underlying52 rfl (by rw [ivs_length, List.length_take, hS]; exact size52) ?_
        | refine wpList_eq26 rfl (.tmp 15) (.tmp 17) rfl T (S.take 26) hTl.out (by rw [List.length_take]; omega) rfl rfl ?_)
      go_ret
      exact ⟨ret_bool hTT.out, hB.out⟩

/-- Does a man stand farther from home? -/
def behB (S : List Int) (f : Nat) : Bool := (List.range 26).any fun i => decide (f < i ∧ 0 < S.getD i 0)

theorem behB_iff (S : List Int) (f : Nat) : behB S f = true ↔ ∃ i, i < 26 ∧ f < i ∧ 0 < S.getD i 0 := by
  unfold behB
  rw [List.any_eq_true]
  simp only [List.mem_range, decide_eq_true_eq]

set_option maxRecDepth 100000 in
set_option maxHeartbeats 4000000 in
theorem anyBehind_any (S : List Int) (hS : S.length = 52) (f : Nat) (hf : f ≤ 25) (w : World) :
    Calls Try.prog 51 #[.agg (ivs S).toArray, .int .i64 f] w fun e w' => e = .returned (.bool (behB S f)) ∧ Below w.heap.size w w' := by
  go_enter Try.func51, Try.ntmps51
  go_wp2_with fail
  have K0 : Blk (w.alloc (Obj.cells (ivs S).toArray 54)) w.heap.size 54 S := Blk.new w 54 S _ rfl
  have B1 : Below w.heap.size w (w.alloc (Obj.cells (ivs S).toArray 54)) := (Below.refl _ w).alloc (Nat.le_refl _) _
  generalize w.alloc (Obj.cells (ivs S).toArray 54) = w1 at *
  go_loopw [5] (fun v wr => ∃ (k : Nat), v = .int .i64 k ∧ k ≤ 26 ∧ f < k ∧ wr = w1 ∧ Hid (∀ i, f < i → i < k → ¬ 0 < S.getD i 0)) (fun v _ => 26 - (intOf v).toNat)
  case atStart => exact ⟨f + 1, by go_num, by omega, by omega, rfl, fun i h1 h2 => by omega⟩
  case round =>
    obtain ⟨k, rfl, hk, hfk, hwr, hno⟩ := hrel
    subst wr
    by_cases hlt' : k ≤ 25
    · have hkn : (k : Int) ≤ 25 := by omega
      have c1 := K0.cell (i := k) (by omega)
      have HV := hide (fun h : 0 < S.getD k 0 => (show behB S f = true from (behB_iff S f).2 ⟨k, by omega, hfk, h⟩))
      have HN : Hid (¬ 0 < S.getD k 0 → ∀ i, f < i → i < k + 1 → ¬ 0 < S.getD i 0) := hide (by
        intro h i h1 h2
        by_cases e : i = k
        · subst e; exact h
        · exact hno.out i h1 (by omega))
      generalize S.getD k 0 = z at *
      by_cases hz : 0 < z
      · have HV' := hide (HV.out hz)
        clear HV HN
        go_wp2
        go_ret
        exact ⟨ret_bool HV'.out.symm, B1⟩
      · have HN' := hide (HN.out hz)
        have hzd : decide (0 < z) = false := by simpa using hz
        clear HV HN
        go_wp2
        exact ⟨⟨k + 1, rfl, by omega, by omega, by first | rfl | trivial, HN'.out⟩, by simp [intOf]; omega⟩
    · obtain rfl : k = 26 := by omega
      have HV : Hid (behB S f = false) := hide (by
        rw [← Bool.not_eq_true, behB_iff]
        rintro ⟨i, h1, h2, h3⟩
        exact hno.out i h2 h1 h3)
      go_wp2
      go_ret
      exact ⟨ret_bool HV.out.symm, B1⟩

end Go.Proofs.Ytmboikpcbkiepaa
