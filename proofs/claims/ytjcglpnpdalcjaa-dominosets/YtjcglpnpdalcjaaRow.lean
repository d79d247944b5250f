/-
  What Row answers for every argument. No conditions beyond those that each theorem bears.
-/
import Derived.Test.YtjcglpnpdalcjaaBegin
import Derived.Test.YtjcglpnpdalcjaaRowFrom
namespace Go.Proofs.Ytjcglpnpdalcjaa
open Go.RowKit
attribute [local go_sem] build35 run_eq35 guard35
attribute [local irreducible] hz hzL

theorem fltE_zero' {ps : List Pc} {m : Nat} (h : fltE ps m = 0) : ps.length ≤ m ∧ pcsB ps = true := by
  unfold fltE at h
  split at h
  · simp at h
  · split at h
    · rename_i h1 h2; exact ⟨by omega, h2⟩
    · simp at h

theorem begTo_nat (E : Nat → Nat) (f0 : Int) (h : ∃ v : Nat, v < 10 ∧ f0 = (v : Int)) : ∀ k, k ≤ 10 → ∃ v : Nat, v < 10 ∧ (begTo E f0 k).1 = (v : Int) := by
  intro k
  induction k with
  | zero => intro _; exact h
  | succ k ih =>
    intro hk
    rw [begTo]
    split
    · exact ⟨k, by omega, rfl⟩
    · exact ih (by omega)

theorem begF_nat (ps : List Pc) (h : pcsB ps = true) : ∃ v : Nat, v < 10 ∧ (begF ps).1 = (v : Int) := by
  refine begTo_nat _ _ ?_ 10 (Nat.le_refl _)
  by_cases h0 : 0 < ps.length
  · obtain ⟨X, Y, e, hX, _⟩ := pcs_nat h h0
    exact ⟨X, hX, by rw [e]⟩
  · have : ps = [] := List.eq_nil_of_length_eq_zero (by omega)
    subst this
    exact ⟨0, by omega, rfl⟩

/-- All that is laid from where a row begins. -/
def laid (ps : List Pc) : List Pc := (hz ((ps.map lf).length + 1) (ps.map lf) (begF ps).1.toNat).1.reverse

/-- What Row answers. -/
def rowE (ps : List Pc) : List Pc × Int :=
  if fltE ps 60 ≠ 0 then ([], fltE ps 60) else if 2 < (begF ps).2 then ([], 10) else if (laid ps).length ≠ ps.length then ([], 10) else (laid ps, 0)

set_option maxHeartbeats 2000000 in
theorem Row_any (a : Option Addr) (n c : Nat) (ps : List Pc) (w : World) (h : Rp w a n c ps) :
    Calls Try.prog 15 #[.slice a n c] w fun e w' => ∃ a' c', e = .returned (.tuple #[.slice a' (rowE ps).1.length c', .int .i64 (rowE ps).2]) ∧ Rp w' a' (rowE ps).1.length c' (rowE ps).1 ∧ Below w.heap.size w w' := by
  have hmx := h.max
  have hcp := h.cap
  unfold maxLen at hmx
  have HH := hide h
  have HLN := hide h.len
  clear h
  by_cases hf : fltE ps 60 = 0
  · obtain ⟨h1, h2⟩ := fltE_zero' hf
    rw [HLN.out] at h1
    obtain ⟨v, hv, hve⟩ := begF_nat ps h2
    have HP := hide h2
    have HF := hide hf
    have HVE := hide hve
    clear h2 hf hve
    by_cases ho : 2 < (begF ps).2
    · have HV : Hid (rowE ps = ([], 10)) := hide (by rw [rowE, if_neg (by rw [HF.out]; simp), if_pos ho])
      rw [HV.out]
      have HO : Hid (decide ((begF ps).2 ≤ 2) = false) := hide (by rw [decide_eq_false_iff_not]; omega)
      clear ho
      simp only [List.length_nil]
      go_enter Try.func15, Try.ntmps15
      go_wp2_with fail
      refine (fault_any a n c ps 60 w HH.out).mono ?_
      rintro e w1 ⟨rfl, hB1⟩
      rw [HF.out]
      have HB1 := hide hB1
      clear hB1
      go_wp2_with fail
      refine (beginning_any a n c ps w1 (HH.out.mono HB1.out) (by omega) HP.out).mono ?_
      rintro e w2 ⟨rfl, hB2⟩
      rw [HO.out, HVE.out]
      have HB2 := hide (HB1.out.trans (hB2.mono HB1.out.size))
      clear hB2
      go_wp2_with fail
      refine bodyPost_ret (results_tmp2 rfl _ _ _) rfl ⟨_, _, rfl, Rp.of_nil _, HB2.out⟩
    · have HO : Hid (decide ((begF ps).2 ≤ 2) = true) := hide (by rw [decide_eq_true_iff]; omega)
      obtain ⟨R, hR⟩ : ∃ R, laid ps = R := ⟨_, rfl⟩
      have HA : Hid ((hz ((ps.map lf).length + 1) (ps.map lf) v).1.reverse = R) := hide (by rw [← hR, laid, HVE.out]; rfl)
      obtain ⟨A, hA⟩ : ∃ A, (hz ((ps.map lf).length + 1) (ps.map lf) v).1 = A := ⟨_, rfl⟩
      have HAE := hide hA
      have HRA : Hid (A.reverse = R) := hide (by rw [← hA]; exact HA.out)
      have HRL : Hid (A.length = R.length) := hide (by rw [← HRA.out, List.length_reverse])
      have hAl : A.length ≤ 60 := by
        have := hz_len ((ps.map lf).length + 1) (ps.map lf) v
        rw [hA, List.length_map, HLN.out] at this
        omega
      by_cases hl : R.length = n
      · have HV : Hid (rowE ps = (R, 0)) := hide (by rw [rowE, if_neg (by rw [HF.out]; simp), if_neg ho, hR, if_neg (by rw [HLN.out]; simpa using hl)])
        rw [HV.out]
        have hAn : ((A.length : Int) != (n : Int)) = false := by have := HRL.out; simp; omega
        have HLR := hide hl
        clear ho hR hA hl
        simp only
        go_enter Try.func15, Try.ntmps15
        go_wp2_with fail
        refine (fault_any a n c ps 60 w HH.out).mono ?_
        rintro e w1 ⟨rfl, hB1⟩
        rw [HF.out]
        have HB1 := hide hB1
        clear hB1
        go_wp2_with fail
        refine (beginning_any a n c ps w1 (HH.out.mono HB1.out) (by omega) HP.out).mono ?_
        rintro e w2 ⟨rfl, hB2⟩
        rw [HO.out, HVE.out]
        have HB2 := hide (HB1.out.trans (hB2.mono HB1.out.size))
        clear hB2
        go_wp2_with fail
        refine (counted_any a n c ps w2 (HH.out.mono HB2.out) (by omega)).mono ?_
        rintro e w3 ⟨rfl, hM3, hB3⟩
        have HB3 := hide (HB2.out.trans (hB3.mono HB2.out.size))
        have HM3 := hide hM3
        clear hM3 hB3
        go_wp2_with fail
        refine (rowFrom_any v w2.heap.size w2.heap.size (ps.map lf) w3 hv HM3.out (Nat.le_refl _) (by rw [List.length_map, HLN.out]; omega)).mono ?_
        rw [HAE.out]
        rintro e w4 ⟨a4, c4, rfl, hR4, hB4⟩
        have HB4 := hide (HB3.out.trans (hB4.mono HB2.out.size))
        have HR4 := hide hR4
        clear hR4 hB4
        go_wp2_with fail
        refine bodyPost_ret (results_tmp2 rfl _ _ _) rfl ⟨a4, c4, ?_, ?_, HB4.out⟩
        · rw [← HRL.out]; rfl
        · have := HR4.out; rw [HRA.out, HRL.out] at this; exact this
      · have HV : Hid (rowE ps = ([], 10)) := hide (by rw [rowE, if_neg (by rw [HF.out]; simp), if_neg ho, hR, if_pos (by rw [HLN.out]; exact hl)])
        rw [HV.out]
        have hAn : ((A.length : Int) != (n : Int)) = true := by have := HRL.out; simp; omega
        clear ho hR hA hl
        simp only [List.length_nil]
        go_enter Try.func15, Try.ntmps15
        go_wp2_with fail
        refine (fault_any a n c ps 60 w HH.out).mono ?_
        rintro e w1 ⟨rfl, hB1⟩
        rw [HF.out]
        have HB1 := hide hB1
        clear hB1
        go_wp2_with fail
        refine (beginning_any a n c ps w1 (HH.out.mono HB1.out) (by omega) HP.out).mono ?_
        rintro e w2 ⟨rfl, hB2⟩
        rw [HO.out, HVE.out]
        have HB2 := hide (HB1.out.trans (hB2.mono HB1.out.size))
        clear hB2
        go_wp2_with fail
        refine (counted_any a n c ps w2 (HH.out.mono HB2.out) (by omega)).mono ?_
        rintro e w3 ⟨rfl, hM3, hB3⟩
        have HB3 := hide (HB2.out.trans (hB3.mono HB2.out.size))
        have HM3 := hide hM3
        clear hM3 hB3
        go_wp2_with fail
        refine (rowFrom_any v w2.heap.size w2.heap.size (ps.map lf) w3 hv HM3.out (Nat.le_refl _) (by rw [List.length_map, HLN.out]; omega)).mono ?_
        rw [HAE.out]
        rintro e w4 ⟨a4, c4, rfl, hR4, hB4⟩
        have HB4 := hide (HB3.out.trans (hB4.mono HB2.out.size))
        clear hR4 hB4
        go_wp2_with fail
        refine bodyPost_ret (results_tmp2 rfl _ _ _) rfl ⟨_, _, rfl, Rp.of_nil _, HB4.out⟩
  · have HV : Hid (rowE ps = ([], fltE ps 60)) := hide (by rw [rowE, if_pos hf])
    rw [HV.out]
    obtain ⟨E, hE⟩ : ∃ E, fltE ps 60 = E := ⟨_, rfl⟩
    rw [hE]
    have HE := hide hE
    have hE1 : (E != 0) = true := by rw [← hE]; simpa using hf
    clear hE hf
    simp only [List.length_nil]
    go_enter Try.func15, Try.ntmps15
    go_wp2_with fail
    refine (fault_any a n c ps 60 w HH.out).mono ?_
    rintro e w1 ⟨rfl, hB1⟩
    rw [HE.out]
    have HB1 := hide hB1
    clear hB1
    go_wp2_with fail
    refine bodyPost_ret (results_tmp2 rfl _ _ _) rfl ⟨_, _, rfl, Rp.of_nil _, HB1.out⟩

end Go.Proofs.Ytjcglpnpdalcjaa
