/-
  What the reference's ScoreOf answers, whole; and the law 'BridgeScores': every way through it ends with true. No conditions beyond those that each theorem bears.
-/
import Derived.Test.YtiihnlpoagnkhaaSc5a
import Derived.Test.YtiihnlpoagnkhaaSc5b
import Derived.Test.YtiihnlpoagnkhaaSc5c
import Derived.Test.YtiihnlpoagnkhaaSc6
namespace Go.Proofs.Ytiihnlpoagnkhaa
open Go.RowKit

theorem ScoreOf_any (l s d t : Nat) (k : Int) (v : Bool) (hl : 1 ≤ l) (hl7 : l ≤ 7) (hs : s ≤ 4) (hd : d ≤ 2) (ht13 : t ≤ 13) (w : World) :
    Calls Try.prog 17 #[.agg (ctA l s d k), .bool v, .int .i64 t] w fun e w' => e = .returned (.int .i64 (scN l s d v t)) ∧ Below w.heap.size w w' := by
  by_cases ht : t < l + 6
  · rw [scN, if_pos ht]
    rcases (by omega : d = 0 ∨ d = 1 ∨ d = 2) with rfl | rfl | rfl <;> cases v
    · exact ScoreOf_fail0false l s t k hl hl7 ht w
    · exact ScoreOf_fail0true l s t k hl hl7 ht w
    · exact ScoreOf_fail1false l s t k hl hl7 ht w
    · exact ScoreOf_fail1true l s t k hl hl7 ht w
    · exact ScoreOf_fail2false l s t k hl hl7 ht w
    · exact ScoreOf_fail2true l s t k hl hl7 ht w
  · rw [scN, if_neg ht]
    rcases (by omega : d = 0 ∨ d = 1 ∨ d = 2) with rfl | rfl | rfl <;> cases v
    · rcases (by omega : s ≤ 1 ∨ (2 ≤ s ∧ s ≤ 3) ∨ s = 4) with h | h | rfl
      · exact ScoreOf_lo0false l t s h k hl hl7 (by omega) ht13 w
      · exact ScoreOf_hi0false l t s h.1 h.2 k hl hl7 (by omega) ht13 w
      · exact ScoreOf_nt0false l t k hl hl7 (by omega) ht13 w
    · rcases (by omega : s ≤ 1 ∨ (2 ≤ s ∧ s ≤ 3) ∨ s = 4) with h | h | rfl
      · exact ScoreOf_lo0true l t s h k hl hl7 (by omega) ht13 w
      · exact ScoreOf_hi0true l t s h.1 h.2 k hl hl7 (by omega) ht13 w
      · exact ScoreOf_nt0true l t k hl hl7 (by omega) ht13 w
    · rcases (by omega : s ≤ 1 ∨ (2 ≤ s ∧ s ≤ 3) ∨ s = 4) with h | h | rfl
      · exact ScoreOf_lo1false l t s h k hl hl7 (by omega) ht13 w
      · exact ScoreOf_hi1false l t s h.1 h.2 k hl hl7 (by omega) ht13 w
      · exact ScoreOf_nt1false l t k hl hl7 (by omega) ht13 w
    · rcases (by omega : s ≤ 1 ∨ (2 ≤ s ∧ s ≤ 3) ∨ s = 4) with h | h | rfl
      · exact ScoreOf_lo1true l t s h k hl hl7 (by omega) ht13 w
      · exact ScoreOf_hi1true l t s h.1 h.2 k hl hl7 (by omega) ht13 w
      · exact ScoreOf_nt1true l t k hl hl7 (by omega) ht13 w
    · rcases (by omega : s ≤ 1 ∨ (2 ≤ s ∧ s ≤ 3) ∨ s = 4) with h | h | rfl
      · exact ScoreOf_lo2false l t s h k hl hl7 (by omega) ht13 w
      · exact ScoreOf_hi2false l t s h.1 h.2 k hl hl7 (by omega) ht13 w
      · exact ScoreOf_nt2false l t k hl hl7 (by omega) ht13 w
    · rcases (by omega : s ≤ 1 ∨ (2 ≤ s ∧ s ≤ 3) ∨ s = 4) with h | h | rfl
      · exact ScoreOf_lo2true l t s h k hl hl7 (by omega) ht13 w
      · exact ScoreOf_hi2true l t s h.1 h.2 k hl hl7 (by omega) ht13 w
      · exact ScoreOf_nt2true l t k hl hl7 (by omega) ht13 w

/-- A contract that was laid is still there behind a call. -/
theorem ct_cells {w w1 : World} (l s d k : Int) (hB : Below (w.alloc (Obj.cells (ctA l s d k) 34)).heap.size (w.alloc (Obj.cells (ctA l s d k) 34)) w1) :
    w1.cell? ⟨w.heap.size, 0, none⟩ = some (.int .i64 l) ∧ w1.cell? ⟨w.heap.size, 1, none⟩ = some (.int .i64 s) ∧ w1.cell? ⟨w.heap.size, 2, none⟩ = some (.int .i64 d) ∧ w1.cell? ⟨w.heap.size, 3, none⟩ = some (.int .i64 k) := by
  refine ⟨?_, ?_, ?_, ?_⟩ <;> · rw [hB.cell (by simp [World.size_alloc])]; go_simp

theorem ct_below {w w1 : World} (l s d k : Int) (hB : Below (w.alloc (Obj.cells (ctA l s d k) 34)).heap.size (w.alloc (Obj.cells (ctA l s d k) 34)) w1) : Below w.heap.size w w1 :=
  ((Below.refl w.heap.size w).alloc (Nat.le_refl _) (Obj.cells (ctA l s d k) 34)).trans (hB.mono (by rw [World.size_alloc]; omega))

set_option maxRecDepth 100000 in
set_option maxHeartbeats 2000000 in
theorem scores_any (l s d k : Int) (v : Bool) (t : Int) (w : World) :
    Calls Try.prog 5 #[.agg (ctA l s d k), .bool v, .int .i64 t] w fun e w' => e = .returned (.bool true) ∧ Below w.heap.size w w' := by
  have CM := hide (ContractMay_any l s d k t)
  cases hct : (isCt l s d k && decide (0 ≤ t ∧ t ≤ 13)) with
  | false =>
    rw [hct] at CM
    have SC := hide (Score_bad l s d t k v hct)
    clear hct
    go_enter Try.func5, Try.ntmps5
    go_wp2_with fail
    refine (SC.out _).mono ?_
    rintro e w1 ⟨rfl, hB1⟩
    obtain ⟨q0, q1, q2, q3⟩ := ct_cells l s d k hB1
    have HA := hide hB1
    have HB1 := hide (ct_below l s d k hB1)
    clear hB1
    go_wp2_with fail
    refine (CM.out _).mono ?_
    rintro e w2 ⟨rfl, hB2⟩
    have HB2 := hide (HB1.out.trans (hB2.mono HB1.out.size))
    clear hB2
    go_wp2
    go_ret
    exact ⟨rfl, HB2.out⟩
  | true =>
    rw [hct] at CM
    simp only [Bool.and_eq_true, decide_eq_true_eq] at hct
    obtain ⟨hc, ht0, ht13⟩ := hct
    obtain ⟨l', s', d', rfl, rfl, rfl, h1, h2, h3, h4, h5, h6⟩ := isCt_nat l s d k hc
    obtain ⟨t', rfl⟩ : ∃ t' : Nat, t = t' := ⟨t.toNat, by omega⟩
    have SC := hide (Score_good l' s' d' t' k v hc (by omega))
    have RF := hide (ScoreOf_any l' s' d' t' k v h1 h2 h3 h4 (by omega))
    obtain ⟨x, hx⟩ : ∃ x, scN l' s' d' v t' = x := ⟨_, rfl⟩
    rw [hx] at SC RF
    have hxx : (x == x) = true := by simp
    clear hx hc ht0 ht13 h1 h2 h3 h4 h5 h6
    go_enter Try.func5, Try.ntmps5
    go_wp2_with fail
    refine (SC.out _).mono ?_
    rintro e w1 ⟨rfl, hB1⟩
    obtain ⟨q0, q1, q2, q3⟩ := ct_cells l' s' d' k hB1
    have HA := hide hB1
    have HB1 := hide (ct_below l' s' d' k hB1)
    clear hB1
    go_wp2_with fail
    refine (CM.out _).mono ?_
    rintro e w2 ⟨rfl, hB2⟩
    have HA2 := HA.out.trans (hB2.mono HA.out.size)
    clear q0 q1 q2 q3
    obtain ⟨q0, q1, q2, q3⟩ := ct_cells l' s' d' k HA2
    have HB2 := hide (HB1.out.trans (hB2.mono HB1.out.size))
    clear hB2 HA2 HA HB1
    go_wp2_with fail
    refine (RF.out _).mono ?_
    rintro e w3 ⟨rfl, hB3⟩
    have HB3 := hide (HB2.out.trans (hB3.mono HB2.out.size))
    clear hB3
    go_wp2
    go_ret
    exact ⟨rfl, HB3.out⟩

end Go.Proofs.Ytiihnlpoagnkhaa
