/-
  Which boards may be, as the document asks: GammonMay. No conditions beyond those that each theorem bears.
-/
import Derived.Test.YtmboikpcbkiepaaRef1
namespace Go.Proofs.Ytmboikpcbkiepaa
open Go.RowKit

theorem may_no {P : List Int} {W B T : Int} (h : ¬ mayP P W B T) : mayG P W B T = false := by simp only [mayG, decide_eq_false_iff_not]; exact h

theorem mayP.W15 {P : List Int} {W B T : Int} (h : mayP P W B T) : 0 ≤ W ∧ W ≤ 15 := by
  obtain ⟨-, -, -, hW, hB, -, h1, -⟩ := h
  exact ⟨hW, Int.le_trans (mem_le_sum _ (ws_pos hW P) W (by simp [ws])) h1⟩

theorem mayP.B15 {P : List Int} {W B T : Int} (h : mayP P W B T) : 0 ≤ B ∧ B ≤ 15 := by
  obtain ⟨-, -, -, hW, hB, -, -, h1⟩ := h
  exact ⟨hB, Int.le_trans (mem_le_sum _ (bs_pos hB P) B (by simp [bs])) h1⟩

theorem mayP.T1 {P : List Int} {W B T : Int} (h : mayP P W B T) : 0 ≤ T ∧ T ≤ 1 := by
  obtain ⟨-, -, -, -, -, hT, -, -⟩ := h
  omega

theorem ws_sum_snoc (W : Int) (P : List Int) (k : Nat) (hk : k < P.length) : (ws W (P.take (k + 1))).sum = (ws W (P.take k)).sum + up (P.getD k 0) := by
  rw [ws_snoc W P k hk, List.sum_append]; simp
theorem bs_sum_snoc (B : Int) (P : List Int) (k : Nat) (hk : k < P.length) : (bs B (P.take (k + 1))).sum = (bs B (P.take k)).sum + up (-P.getD k 0) := by
  rw [bs_snoc B P k hk, List.sum_append]; simp

set_option maxRecDepth 100000 in
set_option maxHeartbeats 4000000 in
theorem GammonMay_any (a : Option Addr) (n c : Nat) (P : List Int) (W B T : Int) (w : World) (h : Rd w a n c P) :
    Calls Try.prog 11 #[.agg (gmA a n c W B T)] w fun e w' => e = .returned (.bool (mayG P W B T)) ∧ Below w.heap.size w w' := by
  have BA : ∀ o : Obj, Below w.heap.size w (w.alloc o) := fun o => (Below.refl _ _).alloc (Nat.le_refl _) _
  by_cases hn : n = 26
  rotate_left
  · have hb1 : ((n : Int) == 26) = false := by simp; omega
    have hb2 : ((n : Int) != 26) = true := by simp; omega
    have HV : Hid (mayG P W B T = false) := hide (may_no (fun hm => hn (by rw [← h.len]; exact hm.1)))
    clear h hn
    go_enter Try.func11, Try.ntmps11
    go_wp2
    go_ret
    exact ⟨ret_bool HV.out.symm, BA _⟩
  subst hn
  obtain ⟨b, off, rfl, hc⟩ := h.cells (by omega)
  have hlen := h.len
  have c0 := hc 0 (by omega)
  have c25 := hc 25 (by omega)
  simp only [Nat.add_zero] at c0
  have hbs : b < w.heap.size := World.block_lt_of_cell? w _ c0
  obtain ⟨z0, hz0⟩ : ∃ z, P.getD 0 0 = z := ⟨_, rfl⟩
  obtain ⟨z25, hz25⟩ : ∃ z, P.getD 25 0 = z := ⟨_, rfl⟩
  rw [hz0] at c0
  rw [hz25] at c25
  have HZ0 := hide hz0
  have HZ25 := hide hz25
  have HC := hide hc
  have HBA := hide BA
  clear h hz0 hz25 hc BA
  by_cases g0 : z0 = 0
  rotate_left
  · have q1 : (z0 == 0) = false := by simpa using g0
    have q2 : (z0 != 0) = true := by simpa using g0
    have HV : Hid (mayG P W B T = false) := hide (may_no (fun hm => g0 (HZ0.out ▸ hm.2.1)))
    clear g0
    go_enter Try.func11, Try.ntmps11
    go_wp2
    go_ret
    exact ⟨ret_bool HV.out.symm, HBA.out _⟩
  subst g0
  by_cases g25 : z25 = 0
  rotate_left
  · have q1 : (z25 == 0) = false := by simpa using g25
    have q2 : (z25 != 0) = true := by simpa using g25
    have HV : Hid (mayG P W B T = false) := hide (may_no (fun hm => g25 (HZ25.out ▸ hm.2.2.1)))
    clear g25
    go_enter Try.func11, Try.ntmps11
    go_wp2
    go_ret
    exact ⟨ret_bool HV.out.symm, HBA.out _⟩
  subst g25
  have WI := hide within_any
  by_cases gW : 0 ≤ W ∧ W ≤ 15
  rotate_left
  · have qW : inB W 0 15 = false := by simp only [inB, decide_eq_false_iff_not]; exact gW
    have HV : Hid (mayG P W B T = false) := hide (may_no (fun hm => gW hm.W15))
    clear gW
    go_enter Try.func11, Try.ntmps11
    go_wp2_with (go_at_call 33; refine (WI.out _ _ _ _).mono ?_; rintro e w' ⟨rfl, hw'⟩; subst w')
    go_wp2
    go_ret
    exact ⟨ret_bool HV.out.symm, HBA.out _⟩
  have qW : inB W 0 15 = true := by simp only [inB, decide_eq_true_eq]; exact gW
  by_cases gB : 0 ≤ B ∧ B ≤ 15
  rotate_left
  · have qB : inB B 0 15 = false := by simp only [inB, decide_eq_false_iff_not]; exact gB
    have HV : Hid (mayG P W B T = false) := hide (may_no (fun hm => gB hm.B15))
    clear gB
    go_enter Try.func11, Try.ntmps11
    go_wp2_with (go_at_call 33; refine (WI.out _ _ _ _).mono ?_; rintro e w' ⟨rfl, hw'⟩; subst w')
    go_wp2
    go_ret
    exact ⟨ret_bool HV.out.symm, HBA.out _⟩
  have qB : inB B 0 15 = true := by simp only [inB, decide_eq_true_eq]; exact gB
  by_cases gT : 0 ≤ T ∧ T ≤ 1
  rotate_left
  · have qT : inB T 0 1 = false := by simp only [inB, decide_eq_false_iff_not]; exact gT
    have HV : Hid (mayG P W B T = false) := hide (may_no (fun hm => gT hm.T1))
    clear gT
    go_enter Try.func11, Try.ntmps11
    go_wp2_with (go_at_call 33; refine (WI.out _ _ _ _).mono ?_; rintro e w' ⟨rfl, hw'⟩; subst w')
    go_wp2
    go_ret
    exact ⟨ret_bool HV.out.symm, HBA.out _⟩
  have qT : inB T 0 1 = true := by simp only [inB, decide_eq_true_eq]; exact gT
  go_enter Try.func11, Try.ntmps11
  go_wp2_with (go_at_call 33; refine (WI.out _ _ _ _).mono ?_; rintro e w' ⟨rfl, hw'⟩; subst w')
  go_quiet (fail)
  go_wp2_with fail
  have K1 : Gm (w.alloc (Obj.cells (gmA (some ⟨b, off, none⟩) 26 c W B T) 24)) w.heap.size (some ⟨b, off, none⟩) 26 c W B T := Gm.new w _ _ _ _ _ _
  have B1 := HBA.out (Obj.cells (gmA (some ⟨b, off, none⟩) 26 c W B T) 24)
  have K2 := hide (K1.drewN nq)
  have B2 := hide (B1.trans (drewN_below w.heap.size _ nq))
  clear K1 B1
  generalize (w.alloc (Obj.cells (gmA (some ⟨b, off, none⟩) 26 c W B T) 24)).drewN nq = w1 at *
  go_loopw [3, 4, 5] (fun v3 v4 v5 wr => ∃ (k : Nat) (x y : Int), v5 = .int .i64 k ∧ 1 ≤ k ∧ k ≤ 25 ∧ v3 = .int .i64 x ∧ v4 = .int .i64 y ∧ 0 ≤ x ∧ x ≤ 15 + 15 * (k : Int) ∧ 0 ≤ y ∧ y ≤ 15 + 15 * (k : Int) ∧ Hid (x = (ws W (P.take k)).sum) ∧ Hid (y = (bs B (P.take k)).sum) ∧ Hid (∀ i, i < k → -15 ≤ P.getD i 0 ∧ P.getD i 0 ≤ 15) ∧ wr = w1) (fun _ _ v5 _ => 25 - (intOf v5).toNat)
  case atStart =>
    have t1 : P.take 1 = [0] := by rw [take_snoc P 0 (by omega), HZ0.out]; rfl
    refine ⟨1, W, B, rfl, by omega, by omega, rfl, rfl, by omega, by omega, by omega, by omega, ?_, ?_, ?_, rfl⟩
    · show _ = _; rw [t1]; simp [ws, up]
    · show _ = _; rw [t1]; simp [bs, up]
    · intro i hi; obtain rfl : i = 0 := by omega
      rw [HZ0.out]; omega
  case round =>
    obtain ⟨k, x, y, rfl, hk1, hk, rfl, rfl, hx0, hx1, hy0, hy1, hx, hy, hin, hwr⟩ := hrel
    subst wr
    obtain ⟨g0, -, -, -⟩ := K2.out.cells
    by_cases hk25 : k < 25
    · have hlt : (k : Int) < 25 := by omega
      have hcw : w1.cell? ⟨b, off + k, none⟩ = some (.int .i64 (P.getD k 0)) := (B2.out.cell (p := ⟨b, off + k, none⟩) hbs).trans (HC.out k (by omega))
      have s3 := hide (ws_sum_snoc W P k (by omega))
      have s4 := hide (bs_sum_snoc B P k (by omega))
      have hbad : Hid (¬ (-15 ≤ P.getD k 0 ∧ P.getD k 0 ≤ 15) → mayG P W B T = false) := hide (fun hz => may_no (fun hm => hz ⟨hm.low _ (getD_mem (by omega)), hm.high _ (getD_mem (by omega))⟩))
      have hst : Hid ((-15 ≤ P.getD k 0 ∧ P.getD k 0 ≤ 15) → ∀ i, i < k + 1 → -15 ≤ P.getD i 0 ∧ P.getD i 0 ≤ 15) := hide (by
        intro hz i hi
        by_cases e : i = k
        · subst e; exact hz
        · exact hin.out i (by omega))
      generalize P.getD k 0 = z at *
      by_cases hz : -15 ≤ z ∧ z ≤ 15
      rotate_left
      · have HV := hide (hbad.out hz)
        have qz : inB z (-15) 15 = false := by simp only [inB, decide_eq_false_iff_not]; exact hz
        clear hbad hst hz
        go_wp2_with fail
        refine (WI.out _ _ _ _).mono ?_
        rintro e w' ⟨rfl, hw'⟩
        subst w'
        rw [qz]
        go_wp2
        go_ret
        exact ⟨ret_bool HV.out.symm, B2.out⟩
      have qz : inB z (-15) 15 = true := by simp only [inB, decide_eq_true_eq]; exact hz
      have hin' := hide (hst.out hz)
      clear hbad hst hin
      by_cases hp : 0 < z
      · have eU : up z = z := by unfold up; split <;> omega
        have eD : up (-z) = 0 := by unfold up; split <;> omega
        go_wp2_with fail
        refine (WI.out _ _ _ _).mono ?_
        rintro e w' ⟨rfl, hw'⟩
        subst w'
        rw [qz]
        go_wp2
        refine ⟨⟨k + 1, x + z, y, by go_num, by omega, by omega, rfl, rfl, by omega, by omega, by omega, by omega, ?_, ?_, hin'.out, by first | rfl | trivial⟩, by simp [intOf]; omega⟩
        · show _ = _
          rw [s3.out, hx.out, eU]
        · show _ = _
          rw [s4.out, hy.out, eD]; omega
      · have eU : up z = 0 := by unfold up; split <;> omega
        have eD : up (-z) = -z := by unfold up; split <;> omega
        have hpd : decide (0 < z) = false := by simpa using hp
        go_wp2_with fail
        refine (WI.out _ _ _ _).mono ?_
        rintro e w' ⟨rfl, hw'⟩
        subst w'
        rw [qz]
        go_wp2
        refine ⟨⟨k + 1, x, y - z, by go_num, by omega, by omega, rfl, rfl, by omega, by omega, by omega, by omega, ?_, ?_, hin'.out, by first | rfl | trivial⟩, by simp [intOf]; omega⟩
        · show _ = _
          rw [s3.out, hx.out, eU]; omega
        · show _ = _
          rw [s4.out, hy.out, eD]; omega
    · obtain rfl : k = 25 := by omega
      have h26 : P = P.take (25 + 1) := (List.take_of_length_le (by omega)).symm
      have e3 : (ws W P).sum = x := by rw [h26, ws_sum_snoc W P 25 (by omega), HZ25.out, ← hx.out]; simp [up]
      have e4 : (bs B P).sum = y := by rw [h26, bs_sum_snoc B P 25 (by omega), HZ25.out, ← hy.out]; simp [up]
      have HV : Hid (mayG P W B T = (decide (x ≤ 15) && decide (y ≤ 15))) := hide (by
        have hT : T = 0 ∨ T = 1 := by omega
        simp only [mayG, mayP, hlen, HZ0.out, HZ25.out, gW.1, gB.1, hT, e3, e4, true_and]
        rw [Bool.eq_iff_iff]
        simp)
      clear h26 e3 e4
      by_cases hx15 : x ≤ 15
      · have d1 : decide (x ≤ 15) = true := by simpa using hx15
        go_wp2
        go_ret
        exact ⟨ret_bool (by rw [HV.out, d1]; simp), B2.out⟩
      · have d1 : decide (x ≤ 15) = false := by simpa using hx15
        go_wp2
        go_ret
        exact ⟨ret_bool (by rw [HV.out, d1]; simp), B2.out⟩

end Go.Proofs.Ytmboikpcbkiepaa
