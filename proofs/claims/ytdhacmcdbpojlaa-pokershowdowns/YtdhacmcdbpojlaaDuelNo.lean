/-
  What poker.Showdown answers to what it refuses. No conditions beyond those that each theorem bears.
-/
import Derived.Test.YtdhacmcdbpojlaaDuel
namespace Go.Proofs.Ytdhacmcdbpojlaa
open Go.RowKit Go.Shelf

attribute [local go_sem] Oper.semAt_some wide_fn wide_fn0 wide_depth

set_option maxRecDepth 100000 in
set_option maxHeartbeats 4000000 in
theorem Showdown_len (aA aE aD : Option Addr) (nA nE nD cA cE cD : Nat) (h : ¬ (nA = 2 ∧ nE = 2 ∧ 3 ≤ nD ∧ nD ≤ 5)) (w : World) :
    Calls Try.prog 17 #[.slice aA nA cA, .slice aE nE cE, .slice aD nD cD] w fun e w' => e = .returned (.tuple #[.int .i64 0, .int .i64 0, .int .i64 0, .int .i64 11]) ∧ Below w.heap.size w w' := by
  refine (callsIn_wide (n := 0)).1 ?_
  refine callsIn_of_wp_marks Try.func17 rfl trivial ?_ rfl
  simp only [Try.ntmps17, List.size_toArray, List.length_cons, List.length_nil, Nat.reduceAdd, Nat.reduceSub, Array.replicate_succ, Array.replicate_zero, List.push_toArray, List.append_toArray, List.nil_append, List.cons_append]
  refine wpIn_wide.2 ?_
  by_cases h1 : nA = 2
  · have q1 : ((nA : Int) == 2) = true := by simp; omega
    have q1' : ((nA : Int) != 2) = false := by simp; omega
    by_cases h2 : nE = 2
    · have q2 : ((nE : Int) == 2) = true := by simp; omega
      have q2' : ((nE : Int) != 2) = false := by simp; omega
      by_cases h3 : nD < 3
      · have q3 : (nD : Int) < 3 := by omega
        clear h h1 h2 h3
        go_wp2_with fail
        refine ⟨_, results_ccct rfl _ _ (w.heap.size + 1 + 1 + 1) (w.heap.size + 1 + 1 + 1 + 1) (w.heap.size + 1 + 1 + 1 + 1 + 1) rfl rfl rfl 0 0 0 (by go_simp) (by go_simp) (by go_simp), rfl, ?_⟩
        exact (((((((Below.refl _ w).alloc (Nat.le_refl _) _).alloc (by simp) _).alloc (by simp; omega) _).alloc (by simp; omega) _).alloc (by simp; omega) _).alloc (by simp; omega) _)
      · have q3 : ¬ (nD : Int) < 3 := by omega
        have q4 : (5 : Int) < (nD : Int) := by omega
        clear h h1 h2 h3
        go_wp2_with fail
        refine ⟨_, results_ccct rfl _ _ (w.heap.size + 1 + 1 + 1) (w.heap.size + 1 + 1 + 1 + 1) (w.heap.size + 1 + 1 + 1 + 1 + 1) rfl rfl rfl 0 0 0 (by go_simp) (by go_simp) (by go_simp), rfl, ?_⟩
        exact (((((((Below.refl _ w).alloc (Nat.le_refl _) _).alloc (by simp) _).alloc (by simp; omega) _).alloc (by simp; omega) _).alloc (by simp; omega) _).alloc (by simp; omega) _)
    · have q2 : ((nE : Int) == 2) = false := by simp; omega
      have q2' : ((nE : Int) != 2) = true := by simp; omega
      clear h h1 h2
      go_wp2_with fail
      refine ⟨_, results_ccct rfl _ _ (w.heap.size + 1 + 1 + 1) (w.heap.size + 1 + 1 + 1 + 1) (w.heap.size + 1 + 1 + 1 + 1 + 1) rfl rfl rfl 0 0 0 (by go_simp) (by go_simp) (by go_simp), rfl, ?_⟩
      exact (((((((Below.refl _ w).alloc (Nat.le_refl _) _).alloc (by simp) _).alloc (by simp; omega) _).alloc (by simp; omega) _).alloc (by simp; omega) _).alloc (by simp; omega) _)
  · have q1 : ((nA : Int) == 2) = false := by simp; omega
    have q1' : ((nA : Int) != 2) = true := by simp; omega
    clear h h1
    go_wp2_with fail
    refine ⟨_, results_ccct rfl _ _ (w.heap.size + 1 + 1 + 1) (w.heap.size + 1 + 1 + 1 + 1) (w.heap.size + 1 + 1 + 1 + 1 + 1) rfl rfl rfl 0 0 0 (by go_simp) (by go_simp) (by go_simp), rfl, ?_⟩
    exact (((((((Below.refl _ w).alloc (Nat.le_refl _) _).alloc (by simp) _).alloc (by simp; omega) _).alloc (by simp; omega) _).alloc (by simp; omega) _).alloc (by simp; omega) _)

set_option maxRecDepth 100000 in
set_option maxHeartbeats 4000000 in
theorem Showdown_bad (aA aE aD : Option Addr) (cA cE cD m : Nat) (zA zE zD : List Int) (hm1 : 3 ≤ m) (hm2 : m ≤ 5) (w : World) (RA : Rd w aA 2 cA zA) (RE : Rd w aE 2 cE zE) (RD : Rd w aD m cD zD) (h0 : mayE (zA ++ zE ++ zD) ≠ 0) :
    Calls Try.prog 17 #[.slice aA 2 cA, .slice aE 2 cE, .slice aD m cD] w fun e w' => e = .returned (.tuple #[.int .i64 0, .int .i64 0, .int .i64 0, .int .i64 (mayE (zA ++ zE ++ zD))]) ∧ Below w.heap.size w w' := by
  have HA := hide RA
  have HE := hide RE
  have HD := hide RD
  have g3 : ¬ (m : Int) < 3 := by omega
  have g5 : ¬ (5 : Int) < (m : Int) := by omega
  have d3 : decide ((m : Int) < 3) = false := by simp; omega
  have d5 : decide ((5 : Int) < (m : Int)) = false := by simp; omega
  have HCAT : Hid (zA ++ zE ++ zD = [] ++ zA ++ zE ++ zD) := hide (by simp)
  obtain ⟨KN, hKN⟩ : ∃ K, zA ++ zE ++ zD = K := ⟨_, rfl⟩
  rw [hKN] at HCAT h0 ⊢
  obtain ⟨y, hy⟩ : ∃ y, mayE KN = y := ⟨_, rfl⟩
  rw [hy] at h0 ⊢
  have HMY := hide hy
  clear RA RE RD hKN hy
  refine (callsIn_wide (n := 0)).1 ?_
  refine callsIn_of_wp_marks Try.func17 rfl trivial ?_ rfl
  simp only [Try.ntmps17, List.size_toArray, List.length_cons, List.length_nil, Nat.reduceAdd, Nat.reduceSub, Array.replicate_succ, Array.replicate_zero, List.push_toArray, List.append_toArray, List.nil_append, List.cons_append]
  refine wpIn_wide.2 ?_
  go_wp2_with fail
  obtain ⟨w1, hw1⟩ : ∃ w1, ((((((w.alloc (Obj.cells #[Value.slice aA 2 cA] 22)).alloc (Obj.cells #[Value.slice aE 2 cE] 22)).alloc (Obj.cells #[Value.slice aD m cD] 22)).alloc (Obj.cells #[Value.int IntKind.i64 0] 3)).alloc (Obj.cells #[Value.int IntKind.i64 0] 3)).alloc (Obj.cells #[Value.int IntKind.i64 0] 3)).alloc (Obj.cells #[Value.slice aA 2 cA, Value.slice aE 2 cE, Value.slice aD m cD] 22) = w1 := ⟨_, rfl⟩
  have B1 : Below w.heap.size w w1 := by
    rw [← hw1]
    exact (((((((Below.refl _ w).alloc (Nat.le_refl _) _).alloc (by simp) _).alloc (by simp; omega) _).alloc (by simp; omega) _).alloc (by simp; omega) _).alloc (by simp; omega) _).alloc (by simp; omega) _
  have hs1 : w1.heap.size = w.heap.size + 7 := by rw [← hw1]; simp
  have bx0 : Boxed w1 w.heap.size 22 (.slice aA 2 cA) := by rw [← hw1]; exact ((((((Boxed.new w 22 _).alloc _).alloc _).alloc _).alloc _).alloc _).alloc _
  have bx1 : Boxed w1 (w.heap.size + 1) 22 (.slice aE 2 cE) := by
    rw [← hw1]
    have := (((((Boxed.new (w.alloc (Obj.cells #[Value.slice aA 2 cA] 22)) 22 (.slice aE 2 cE)).alloc (Obj.cells #[Value.slice aD m cD] 22)).alloc (Obj.cells #[Value.int IntKind.i64 0] 3)).alloc (Obj.cells #[Value.int IntKind.i64 0] 3)).alloc (Obj.cells #[Value.int IntKind.i64 0] 3)).alloc (Obj.cells #[Value.slice aA 2 cA, Value.slice aE 2 cE, Value.slice aD m cD] 22)
    simpa using this
  have bx2 : Boxed w1 (w.heap.size + 2) 22 (.slice aD m cD) := by
    rw [← hw1]
    have := ((((Boxed.new ((w.alloc (Obj.cells #[Value.slice aA 2 cA] 22)).alloc (Obj.cells #[Value.slice aE 2 cE] 22)) 22 (.slice aD m cD)).alloc (Obj.cells #[Value.int IntKind.i64 0] 3)).alloc (Obj.cells #[Value.int IntKind.i64 0] 3)).alloc (Obj.cells #[Value.int IntKind.i64 0] 3)).alloc (Obj.cells #[Value.slice aA 2 cA, Value.slice aE 2 cE, Value.slice aD m cD] 22)
    simpa using this
  have bx3 : Boxed w1 (w.heap.size + 3) 3 (.int .i64 0) := by
    rw [← hw1]
    have := (((Boxed.new (((w.alloc (Obj.cells #[Value.slice aA 2 cA] 22)).alloc (Obj.cells #[Value.slice aE 2 cE] 22)).alloc (Obj.cells #[Value.slice aD m cD] 22)) 3 (.int .i64 0)).alloc (Obj.cells #[Value.int IntKind.i64 0] 3)).alloc (Obj.cells #[Value.int IntKind.i64 0] 3)).alloc (Obj.cells #[Value.slice aA 2 cA, Value.slice aE 2 cE, Value.slice aD m cD] 22)
    simpa using this
  have bx4 : Boxed w1 (w.heap.size + 4) 3 (.int .i64 0) := by
    rw [← hw1]
    have := ((Boxed.new ((((w.alloc (Obj.cells #[Value.slice aA 2 cA] 22)).alloc (Obj.cells #[Value.slice aE 2 cE] 22)).alloc (Obj.cells #[Value.slice aD m cD] 22)).alloc (Obj.cells #[Value.int IntKind.i64 0] 3)) 3 (.int .i64 0)).alloc (Obj.cells #[Value.int IntKind.i64 0] 3)).alloc (Obj.cells #[Value.slice aA 2 cA, Value.slice aE 2 cE, Value.slice aD m cD] 22)
    simpa using this
  have bx5 : Boxed w1 (w.heap.size + 5) 3 (.int .i64 0) := by
    rw [← hw1]
    have := (Boxed.new (((((w.alloc (Obj.cells #[Value.slice aA 2 cA] 22)).alloc (Obj.cells #[Value.slice aE 2 cE] 22)).alloc (Obj.cells #[Value.slice aD m cD] 22)).alloc (Obj.cells #[Value.int IntKind.i64 0] 3)).alloc (Obj.cells #[Value.int IntKind.i64 0] 3)) 3 (.int .i64 0)).alloc (Obj.cells #[Value.slice aA 2 cA, Value.slice aE 2 cE, Value.slice aD m cD] 22)
    simpa using this
  have cc : ∀ j, j < 3 → w1.cell? ⟨w.heap.size + 6, j, none⟩ = some (match j with | 0 => .slice aA 2 cA | 1 => .slice aE 2 cE | _ => .slice aD m cD) := by
    intro j hj
    have h6 : w1.heap[w.heap.size + 6]? = some (Obj.cells #[Value.slice aA 2 cA, Value.slice aE 2 cE, Value.slice aD m cD] 22) := by
      rw [← hw1]
      have := World.alloc_heap_new ((((((w.alloc (Obj.cells #[Value.slice aA 2 cA] 22)).alloc (Obj.cells #[Value.slice aE 2 cE] 22)).alloc (Obj.cells #[Value.slice aD m cD] 22)).alloc (Obj.cells #[Value.int IntKind.i64 0] 3)).alloc (Obj.cells #[Value.int IntKind.i64 0] 3)).alloc (Obj.cells #[Value.int IntKind.i64 0] 3)) (Obj.cells #[Value.slice aA 2 cA, Value.slice aE 2 cE, Value.slice aD m cD] 22)
      rw [show ((((((w.alloc (Obj.cells #[Value.slice aA 2 cA] 22)).alloc (Obj.cells #[Value.slice aE 2 cE] 22)).alloc (Obj.cells #[Value.slice aD m cD] 22)).alloc (Obj.cells #[Value.int IntKind.i64 0] 3)).alloc (Obj.cells #[Value.int IntKind.i64 0] 3)).alloc (Obj.cells #[Value.int IntKind.i64 0] 3)).heap.size = w.heap.size + 6 by simp] at this
      exact this
    rcases (by omega : j = 0 ∨ j = 1 ∨ j = 2) with rfl | rfl | rfl <;> simp [World.cell?, h6]
  rw [hw1]
  have CT := hide (concat_any (w.heap.size + 6) 3 3 (fun | 0 => aA | 1 => aE | _ => aD) (fun | 0 => 2 | 1 => 2 | _ => m) (fun | 0 => cA | 1 => cE | _ => cD) (fun | 0 => zA | 1 => zE | _ => zD) w1 (by omega) (by omega) (by omega)
    (fun j hj => by rw [cc j hj]; rcases (by omega : j = 0 ∨ j = 1 ∨ j = 2) with rfl | rfl | rfl <;> rfl)
    (fun j hj => by
      rcases (by omega : j = 0 ∨ j = 1 ∨ j = 2) with rfl | rfl | rfl
      · exact HA.out.mono B1
      · exact HE.out.mono B1
      · exact HD.out.mono B1)
    (fun j => by
      match j with
      | 0 => simp
      | 1 => simp
      | j + 2 => simp; omega)
    (by simp only [tot]; omega))
  have HBX := hide (And.intro bx0 (And.intro bx1 (And.intro bx2 (And.intro bx3 (And.intro bx4 bx5)))))
  have HB1 := hide B1
  clear hw1 bx0 bx1 bx2 bx3 bx4 bx5 cc B1
  refine CT.out.mono ?_
  rintro e w2 ⟨a2, c2, rfl, hO2, hB2⟩
  have ht : tot (fun | 0 => 2 | 1 => 2 | _ => m) 3 = 4 + m := by simp [tot]
  have hct : cat (fun | 0 => zA | 1 => zE | _ => zD) 3 = KN := by rw [HCAT.out]; rfl
  rw [ht, hct] at hO2
  rw [ht]
  have HR2 := hide (Rd.of_own hO2)
  have HB2 := hide (HB1.out.trans (hB2.mono HB1.out.size))
  obtain ⟨y0, y1, y2, y3, y4, y5⟩ := HBX.out
  have BX2 := hide (And.intro (boxed_below y0 hB2 y0.lt) (And.intro (boxed_below y1 hB2 y1.lt) (And.intro (boxed_below y2 hB2 y2.lt) (And.intro (boxed_below y3 hB2 y3.lt) (And.intro (boxed_below y4 hB2 y4.lt) (boxed_below y5 hB2 y5.lt))))))
  have hs2 := hB2.size
  clear hO2 hB2 ht hct y0 y1 y2 y3 y4 y5 HBX HB1 CT HCAT
  have CA := hide (cards_any a2 (4 + m) c2 KN w2 HR2.out (by omega))
  rw [HMY.out] at CA
  go_wp2_with fail
  have hq : (y == 0) = false := by simpa using h0
  have hq' : (y != 0) = true := by simpa using h0
  refine CA.out.mono ?_
  rintro e w3 ⟨rfl, hB3⟩
  have HB3 := hide (HB2.out.trans (hB3.mono HB2.out.size))
  obtain ⟨y0, y1, y2, y3, y4, y5⟩ := BX2.out
  have z3 := boxed_below y3 hB3 y3.lt
  have z4 := boxed_below y4 hB3 y4.lt
  have z5 := boxed_below y5 hB3 y5.lt
  have cw : w3.cell? ⟨w.heap.size + 1 + 1 + 1, 0, none⟩ = some (.int .i64 0) := z3.cell
  have ct : w3.cell? ⟨w.heap.size + 1 + 1 + 1 + 1, 0, none⟩ = some (.int .i64 0) := z4.cell
  have cn : w3.cell? ⟨w.heap.size + 1 + 1 + 1 + 1 + 1, 0, none⟩ = some (.int .i64 0) := z5.cell
  have fw : w3.frozen? ⟨w.heap.size + 1 + 1 + 1, 0, none⟩ = false := z3.frozen
  have ft : w3.frozen? ⟨w.heap.size + 1 + 1 + 1 + 1, 0, none⟩ = false := z4.frozen
  have fn : w3.frozen? ⟨w.heap.size + 1 + 1 + 1 + 1 + 1, 0, none⟩ = false := z5.frozen
  clear hB3 y0 y1 y2 y3 y4 y5 BX2 HB2 CA HR2 z3 z4 z5
  go_wp2_with fail
  rw [setCell_id cw, setCell_id ct, setCell_id cn]
  exact ⟨_, results_ccct rfl _ _ (w.heap.size + 1 + 1 + 1) (w.heap.size + 1 + 1 + 1 + 1) (w.heap.size + 1 + 1 + 1 + 1 + 1) rfl rfl rfl 0 0 0 cw ct cn, rfl, HB3.out⟩

end Go.Proofs.Ytdhacmcdbpojlaa
