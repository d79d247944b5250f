/-
  Which boards may be, as the document says it. No conditions beyond those that each theorem bears.
-/
import Derived.Test.YtnbaangnpoblfaaDoorMay
import Derived.Test.YtnbaangnpoblfaaDoorSm
namespace Go.Proofs.YtnbaangnpoblfaaDoor
open Go.RowKit Go.Shelf

theorem within_eq {x lo hi : Int} {b : Bool} (hb : decide (lo ≤ x ∧ x ≤ hi) = b) (W : World) : Calls Tryd.prog 38 #[.int .i64 x, .int .i64 lo, .int .i64 hi] W fun e w' => e = .returned (.bool b) ∧ w' = W := by
  subst hb
  exact within_any x lo hi W

theorem okP_one {p : Nat} (h : 4 < p) : okP 1 p = true := by unfold okP; simp; omega
theorem okP_one_no {p : Nat} (h : ¬ 4 < p) : okP 1 p = false := by unfold okP; simp; omega
theorem okP_neg {p : Nat} (h : p ≤ 28) : okP (-1) p = true := by unfold okP; simp; omega
theorem okP_neg_no {p : Nat} (h : ¬ p ≤ 28) : okP (-1) p = false := by unfold okP; simp; omega
theorem okP_far {x : Int} {p : Nat} (h : ¬ (-2 ≤ x ∧ x ≤ 2)) : okP x p = false := by unfold okP; simp; omega

theorem own3_0 : own3 0 = 0 := by decide
theorem own3_1 : own3 1 = 1 := by decide
theorem own3_2 : own3 2 = 1 := by decide
theorem own3_m1 : own3 (-1) = 2 := by decide
theorem own3_m2 : own3 (-2) = 2 := by decide

attribute [local irreducible] okP cn own3 mayD

set_option maxRecDepth 100000 in
set_option maxHeartbeats 8000000 in
theorem DraughtsMay_any (t : Int) (a : Option Addr) (n c : Nat) (zs : List Int) (w : World) (h : Rd w a n c zs) :
    Calls Tryd.prog 14 #[.agg (dgA a n c t)] w fun e w' => e = .returned (.bool (mayD zs t)) ∧ Below w.heap.size w w' := by
  obtain ⟨w1, hw1⟩ : ∃ w1, w.alloc (.cells (dgA a n c t) 24) = w1 := ⟨_, rfl⟩
  have HB1 : Hid (Below w.heap.size w w1) := hide (by rw [← hw1]; exact (Below.refl _ _).alloc (Nat.le_refl _) _)
  have G1 : Dg w1 w.heap.size a n c t := by rw [← hw1]; exact Dg.new _ _ _ _ _
  have R1 := h.mono HB1.out
  obtain ⟨g0, g1⟩ := G1.cells
  obtain ⟨G, hG⟩ : ∃ G, mayD zs t = G := ⟨_, rfl⟩
  rw [hG]
  have hln : zs.length = n := h.len
  have hcm := h.max
  have hcap := h.cap
  unfold maxLen at hcm
  by_cases h33 : n = 33
  · subst h33
    obtain ⟨ba, oa, rfl, hca⟩ := R1.cells (by omega)
    have c0 := hca 0 (by omega)
    rw [Nat.add_zero] at c0
    by_cases hz : zs.getD 0 0 = 0
    · by_cases ht : t = 1 ∨ t = 2
      · have HE : Hid (∀ b1 b2, okU zs 32 → decide (cn zs 1 32 ≤ 12) = b1 → decide (cn zs 2 32 ≤ 12) = b2 → G = (b1 && b2)) := hide (fun b1 b2 hok h1 h2 => by
          rw [← hG, ← h1, ← h2]
          unfold mayD
          have : (List.range 32).all (fun i => okP (zs.getD (i + 1) 0) (i + 1)) = true := List.all_eq_true.2 (fun i hi => hok i (List.mem_range.1 hi))
          rw [this]
          simp only [hln, hz, ht, decide_true, Bool.true_and])
        have HF : Hid (∀ k, k < 32 → okP (zs.getD (k + 1) 0) (k + 1) = false → G = false) := hide (fun k hk h => by rw [← hG]; exact mayD_false_ok hk h)
        have HPL : Hid (∀ W, Calls Tryd.prog 38 #[.int .i64 t, .int .i64 1, .int .i64 2] W fun e w' => e = .returned (.bool true) ∧ w' = W) := hide (fun W => within_eq (by rw [decide_eq_true_iff]; omega) W)
        have HR1 := hide R1
        rw [hz] at c0
        clear hG ht hz h R1 hln hca G1
        go_enter Tryd.func14, Tryd.ntmps14
        go_upto_region 1 with fail
        clear hw1
        go_wp2_with fail
        refine (HPL.out _).mono ?_
        rintro e w2 ⟨rfl, hw2⟩
        subst w2
        clear c0
        go_wp2_with fail
        go_loopw [3, 4, 5] (fun v3 v4 v wr => ∃ k : Nat, v = .int .i64 ((k : Int) + 1) ∧ v3 = .int .i64 (cn zs 1 k : Nat) ∧ v4 = .int .i64 (cn zs 2 k : Nat) ∧ k ≤ 32 ∧ Hid (okU zs k) ∧ wr = w1) (fun _ _ v _ => 33 - (intOf v).toNat)
        case atStart => exact ⟨0, rfl, by rw [cn_zero]; rfl, by rw [cn_zero]; rfl, by omega, hide (fun i hi => absurd hi (by omega)), rfl⟩
        case round =>
          obtain ⟨k, rfl, rfl, rfl, hk, hU, rfl⟩ := hrel
          by_cases hk2 : k < 32
          · have hle : (k : Int) + 1 ≤ 32 := by omega
            have cz := (HR1.out.cell (i := k + 1) (by omega)).2
            have hk1 : (k : Int) + 1 = ((k + 1 : Nat) : Int) := by omega
            obtain ⟨x, hx⟩ : ∃ x, zs.getD (k + 1) 0 = x := ⟨_, rfl⟩
            have HF1 := hide (HF.out k hk2)
            have HUS := hide (fun hh => okU_succ (Z := zs) hU.out hh)
            have S1 := hide (cn_succ zs 1 k)
            have S2 := hide (cn_succ zs 2 k)
            have l1 := cn_le zs 1 k
            have l2 := cn_le zs 2 k
            rw [hx] at cz HF1 HUS S1 S2
            generalize hN1 : cn zs 1 (k + 1) = N1 at *
            generalize hN2 : cn zs 2 (k + 1) = N2 at *
            generalize hKK : k + 1 = K1 at *
            generalize cn zs 1 k = C1 at *
            generalize cn zs 2 k = C2 at *
            clear hx
            rw [hk1]
            have hle' : (K1 : Int) ≤ 32 := by omega
            have hK33 : (K1 : Int) < 33 := by omega
            have HN1 := hide hN1
            have HN2 := hide hN2
            clear hN1 hN2
            have hcase : (x = 0) ∨ (x = 2) ∨ (x = -2) ∨ (x = 1 ∧ 4 < K1) ∨ (x = 1 ∧ ¬ 4 < K1) ∨ (x = -1 ∧ K1 ≤ 28) ∨ (x = -1 ∧ ¬ K1 ≤ 28) ∨ ¬ (-2 ≤ x ∧ x ≤ 2) := by omega
            rcases hcase with rfl | rfl | rfl | ⟨rfl, hq⟩ | ⟨rfl, hq⟩ | ⟨rfl, hq⟩ | ⟨rfl, hq⟩ | hq
            · have HW : Hid (∀ W, Calls Tryd.prog 38 #[.int .i64 (0), .int .i64 (-2), .int .i64 2] W fun e w' => e = .returned (.bool true) ∧ w' = W) := hide (fun W => within_eq (by decide) W)
              have HUN := hide (HUS.out (by unfold okP; rfl))
              have E1 : Hid (N1 = C1 + 0) := hide (by rw [S1.out, own3_0]; rfl)
              have E2 : Hid (N2 = C2 + 0) := hide (by rw [S2.out, own3_0]; rfl)
              clear HF1 HUS S1 S2
              go_wp2_with fail
              refine (HW.out _).mono ?_
              rintro e w3 ⟨rfl, hw3⟩
              subst w3
              go_wp2_with fail
              refine ⟨⟨k + 1, ?_, ?_, ?_, by omega, by rw [hKK]; exact HUN, trivial⟩, by simp [intOf]; omega⟩
              · simp; omega
              · rw [hKK, HN1.out, E1.out]; rfl
              · rw [hKK, HN2.out, E2.out]; rfl
            · have HW : Hid (∀ W, Calls Tryd.prog 38 #[.int .i64 (2), .int .i64 (-2), .int .i64 2] W fun e w' => e = .returned (.bool true) ∧ w' = W) := hide (fun W => within_eq (by decide) W)
              have HUN := hide (HUS.out (by unfold okP; rfl))
              have E1 : Hid (N1 = C1 + 1) := hide (by rw [S1.out, own3_2]; rfl)
              have E2 : Hid (N2 = C2 + 0) := hide (by rw [S2.out, own3_2]; rfl)
              clear HF1 HUS S1 S2
              go_wp2_with fail
              refine (HW.out _).mono ?_
              rintro e w3 ⟨rfl, hw3⟩
              subst w3
              go_wp2_with fail
              refine ⟨⟨k + 1, ?_, ?_, ?_, by omega, by rw [hKK]; exact HUN, trivial⟩, by simp [intOf]; omega⟩
              · simp; omega
              · rw [hKK, HN1.out, E1.out]; rfl
              · rw [hKK, HN2.out, E2.out]; rfl
            · have HW : Hid (∀ W, Calls Tryd.prog 38 #[.int .i64 (-2), .int .i64 (-2), .int .i64 2] W fun e w' => e = .returned (.bool true) ∧ w' = W) := hide (fun W => within_eq (by decide) W)
              have HUN := hide (HUS.out (by unfold okP; rfl))
              have E1 : Hid (N1 = C1 + 0) := hide (by rw [S1.out, own3_m2]; rfl)
              have E2 : Hid (N2 = C2 + 1) := hide (by rw [S2.out, own3_m2]; rfl)
              clear HF1 HUS S1 S2
              go_wp2_with fail
              refine (HW.out _).mono ?_
              rintro e w3 ⟨rfl, hw3⟩
              subst w3
              go_wp2_with fail
              refine ⟨⟨k + 1, ?_, ?_, ?_, by omega, by rw [hKK]; exact HUN, trivial⟩, by simp [intOf]; omega⟩
              · simp; omega
              · rw [hKK, HN1.out, E1.out]; rfl
              · rw [hKK, HN2.out, E2.out]; rfl
            · have HW : Hid (∀ W, Calls Tryd.prog 38 #[.int .i64 (1), .int .i64 (-2), .int .i64 2] W fun e w' => e = .returned (.bool true) ∧ w' = W) := hide (fun W => within_eq (by decide) W)
              have HUN := hide (HUS.out (okP_one hq))
              have E1 : Hid (N1 = C1 + 1) := hide (by rw [S1.out, own3_1]; rfl)
              have E2 : Hid (N2 = C2 + 0) := hide (by rw [S2.out, own3_1]; rfl)
              clear HF1 HUS S1 S2
              have hq4 : ¬ (K1 : Int) ≤ 4 := by omega
              clear hq
              go_wp2_with fail
              refine (HW.out _).mono ?_
              rintro e w3 ⟨rfl, hw3⟩
              subst w3
              go_wp2_with fail
              refine ⟨⟨k + 1, ?_, ?_, ?_, by omega, by rw [hKK]; exact HUN, trivial⟩, by simp [intOf]; omega⟩
              · simp; omega
              · rw [hKK, HN1.out, E1.out]; rfl
              · rw [hKK, HN2.out, E2.out]; rfl
            · have HW : Hid (∀ W, Calls Tryd.prog 38 #[.int .i64 (1), .int .i64 (-2), .int .i64 2] W fun e w' => e = .returned (.bool true) ∧ w' = W) := hide (fun W => within_eq (by decide) W)
              have HGF := hide (HF1.out (okP_one_no hq))
              clear HF1 HUS S1 S2
              have hq4 : (K1 : Int) ≤ 4 := by omega
              clear hq
              go_wp2_with fail
              refine (HW.out _).mono ?_
              rintro e w3 ⟨rfl, hw3⟩
              subst w3
              go_wp2_with fail
              go_ret
              exact ⟨by rw [HGF.out]; rfl, HB1.out⟩
            · have HW : Hid (∀ W, Calls Tryd.prog 38 #[.int .i64 (-1), .int .i64 (-2), .int .i64 2] W fun e w' => e = .returned (.bool true) ∧ w' = W) := hide (fun W => within_eq (by decide) W)
              have HUN := hide (HUS.out (okP_neg hq))
              have E1 : Hid (N1 = C1 + 0) := hide (by rw [S1.out, own3_m1]; rfl)
              have E2 : Hid (N2 = C2 + 1) := hide (by rw [S2.out, own3_m1]; rfl)
              clear HF1 HUS S1 S2
              have hq4 : ¬ (K1 : Int) ≥ 29 := by omega
              clear hq
              go_wp2_with fail
              refine (HW.out _).mono ?_
              rintro e w3 ⟨rfl, hw3⟩
              subst w3
              go_wp2_with fail
              refine ⟨⟨k + 1, ?_, ?_, ?_, by omega, by rw [hKK]; exact HUN, trivial⟩, by simp [intOf]; omega⟩
              · simp; omega
              · rw [hKK, HN1.out, E1.out]; rfl
              · rw [hKK, HN2.out, E2.out]; rfl
            · have HW : Hid (∀ W, Calls Tryd.prog 38 #[.int .i64 (-1), .int .i64 (-2), .int .i64 2] W fun e w' => e = .returned (.bool true) ∧ w' = W) := hide (fun W => within_eq (by decide) W)
              have HGF := hide (HF1.out (okP_neg_no hq))
              clear HF1 HUS S1 S2
              have hq4 : (K1 : Int) ≥ 29 := by omega
              clear hq
              go_wp2_with fail
              refine (HW.out _).mono ?_
              rintro e w3 ⟨rfl, hw3⟩
              subst w3
              go_wp2_with fail
              go_ret
              exact ⟨by rw [HGF.out]; rfl, HB1.out⟩
            · have HW : Hid (∀ W, Calls Tryd.prog 38 #[.int .i64 (x), .int .i64 (-2), .int .i64 2] W fun e w' => e = .returned (.bool false) ∧ w' = W) := hide (fun W => within_eq (by rw [decide_eq_false_iff_not]; exact hq) W)
              have HGF := hide (HF1.out (okP_far hq))
              clear HF1 HUS S1 S2
              clear hq
              go_wp2_with fail
              refine (HW.out _).mono ?_
              rintro e w3 ⟨rfl, hw3⟩
              subst w3
              go_wp2_with fail
              go_ret
              exact ⟨by rw [HGF.out]; rfl, HB1.out⟩
          · obtain rfl : k = 32 := by omega
            have HE1 := hide (fun b1 b2 => HE.out b1 b2 hU.out)
            have l1 := cn_le zs 1 32
            have l2 := cn_le zs 2 32
            generalize cn zs 1 32 = C1 at *
            generalize cn zs 2 32 = C2 at *
            by_cases d1 : C1 ≤ 12
            · have d1' : (C1 : Int) ≤ 12 := by omega
              by_cases d2 : C2 ≤ 12
              · have d2' : (C2 : Int) ≤ 12 := by omega
                have HGE := hide (HE1.out true true (by simpa using d1) (by simpa using d2))
                go_wp2_with fail
                go_ret
                exact ⟨by rw [HGE.out]; rfl, HB1.out⟩
              · have d2' : ¬ (C2 : Int) ≤ 12 := by omega
                have HGE := hide (HE1.out true false (by simpa using d1) (by simpa using d2))
                go_wp2_with fail
                go_ret
                exact ⟨by rw [HGE.out]; rfl, HB1.out⟩
            · have d1' : ¬ (C1 : Int) ≤ 12 := by omega
              have HGE := hide (HE1.out false (decide (C2 ≤ 12)) (by simpa using d1) rfl)
              go_wp2_with fail
              go_ret
              exact ⟨by rw [HGE.out]; rfl, HB1.out⟩
      · have HGE : Hid (G = false) := hide (by rw [← hG]; unfold mayD; simp only [hln, hz, ht, decide_true, decide_false, Bool.true_and, Bool.false_and])
        have HPL : Hid (∀ W, Calls Tryd.prog 38 #[.int .i64 t, .int .i64 1, .int .i64 2] W fun e w' => e = .returned (.bool false) ∧ w' = W) := hide (fun W => within_eq (by rw [decide_eq_false_iff_not]; omega) W)
        rw [hz] at c0
        clear hG ht hz h R1 hln hca G1
        go_enter Tryd.func14, Tryd.ntmps14
        go_upto_region 1 with fail
        clear hw1
        go_wp2_with fail
        refine (HPL.out _).mono ?_
        rintro e w2 ⟨rfl, hw2⟩
        subst w2
        go_wp2_with fail
        go_ret
        exact ⟨by rw [HGE.out]; rfl, HB1.out⟩
    · have HGE : Hid (G = false) := hide (by rw [← hG]; unfold mayD; simp only [hln, hz, decide_true, decide_false, Bool.true_and, Bool.false_and])
      have hz' : (zs.getD 0 0 != 0) = true := by simpa using hz
      generalize zs.getD 0 0 = z0 at *
      clear hG hz h R1 hln hca G1
      go_enter Tryd.func14, Tryd.ntmps14
      go_upto_region 1 with fail
      clear hw1
      go_wp2_with fail
      go_ret
      exact ⟨by rw [HGE.out]; rfl, HB1.out⟩
  · have HGE : Hid (G = false) := hide (by rw [← hG]; unfold mayD; simp only [hln, h33, decide_false, Bool.false_and])
    have h33' : ((n : Int) != 33) = true := by simp; omega
    clear hG h33 h R1 hln G1
    go_enter Tryd.func14, Tryd.ntmps14
    go_upto_region 1 with fail
    clear hw1
    go_wp2_with fail
    go_ret
    exact ⟨by rw [HGE.out]; rfl, HB1.out⟩

end Go.Proofs.YtnbaangnpoblfaaDoor
