/-
  What Rows answers for every argument. No conditions beyond those that each theorem bears.
-/
import Derived.Test.YtjcglpnpdalcjaaRec
import Derived.Laws.EntriesVeiled
namespace Go.Proofs.Ytjcglpnpdalcjaa
open Go.RowKit
attribute [local go_sem] build35 run_eq35 guard35

/-- What Rows answers. -/
def rowsV (ps : List Pc) : Nat × Int :=
  if fltE ps 7 ≠ 0 then (0, fltE ps 7) else if ps.length = 0 then (1, 0) else (sumTo (fun v => rwN ps.length (ps.map lf) v) 10, 0)

theorem flt7 {ps : List Pc} {m : Nat} (h : fltE ps m = 0) : ps.length ≤ m ∧ pcsB ps = true := by
  unfold fltE at h
  split at h
  · simp at h
  · split at h
    · rename_i h1 h2; exact ⟨by omega, h2⟩
    · simp at h

set_option maxRecDepth 100000 in
set_option maxHeartbeats 4000000 in
theorem Rows_any (a : Option Addr) (n c : Nat) (ps : List Pc) (w : World) (h : Rp w a n c ps) :
    Calls Try.prog 9 #[.slice a n c] w fun e w' => e = .returned (.tuple #[.int .i64 ((rowsV ps).1 : Nat), .int .i64 (rowsV ps).2]) ∧ Below w.heap.size w w' := by
  have hcm := h.max
  have hcn := h.cap
  unfold maxLen at hcm
  have HH := hide h
  have HL := hide h.len
  clear h
  by_cases hf : fltE ps 7 = 0
  · obtain ⟨h1, h2⟩ := flt7 hf
    rw [HL.out] at h1
    have HF := hide hf
    by_cases h0 : n = 0
    · have HV : Hid (rowsV ps = (1, 0)) := hide (by rw [rowsV, if_neg (by rw [hf]; simp), if_pos (by rw [HL.out]; exact h0)])
      rw [HV.out]
      subst h0
      clear hf h2
      go_enter Try.func9, Try.ntmps9
      go_wp2_with fail
      refine (fault_any a 0 c ps 7 w HH.out).mono ?_
      rintro e w1 ⟨rfl, hB1⟩
      rw [HF.out]
      have HB1 := hide hB1
      clear hB1
      go_wp2_with fail
      go_ret2
      exact ⟨rfl, HB1.out⟩
    · have hn0 : ((n : Int) == 0) = false := by simp; omega
      obtain ⟨V, hV⟩ : ∃ V, sumTo (fun v => rwN n (ps.map lf) v) 10 = V := ⟨_, rfl⟩
      have HV : Hid (rowsV ps = (V, 0)) := hide (by rw [rowsV, if_neg (by rw [hf]; simp), if_neg (by rw [HL.out]; exact h0), HL.out, hV])
      rw [HV.out]
      have HVE := hide hV
      clear hf h2 hV h0
      go_enter Try.func9, Try.ntmps9
      go_wp2_with fail
      refine (fault_any a n c ps 7 w HH.out).mono ?_
      rintro e w1 ⟨rfl, hB1⟩
      rw [HF.out]
      have HB1 := hide hB1
      clear hB1
      go_wp2_with fail
      refine (counted_any a n c ps w1 (HH.out.mono HB1.out) (by omega)).mono ?_
      rintro e w2 ⟨rfl, hM2, hB2⟩
      have HB2 := hide (HB1.out.trans (hB2.mono HB1.out.size))
      have hs1 : w.heap.size ≤ w1.heap.size := HB1.out.size
      obtain ⟨mb, hmb⟩ : ∃ mb, w1.heap.size = mb := ⟨_, rfl⟩
      rw [hmb] at hM2 hs1
      have hmlt := hM2.lt
      have HM2 := hide hM2
      have HMS := hide hs1
      clear hM2 hB2 HB1
      simp only [hmb]
      clear hmb hs1
      obtain ⟨P, hP⟩ : ∃ P, w2.heap.size = P := ⟨_, rfl⟩
      go_wp2_with fail
      rw [hP] at hmlt
      obtain ⟨w3, hw3⟩ : ∃ w3, w3 = (w2.alloc (.cells #[.map (some mb)] 47)).alloc (.cells #[.func (.func 26) #[] #[.pointer (some ⟨P, 0, none⟩), .pointer (some ⟨P + 1, 0, none⟩)]] 41) := ⟨_, rfl⟩
      rw [← hw3]
      have B3 : Below w2.heap.size w2 w3 := by
        rw [hw3]
        exact ((Below.refl _ w2).alloc (Nat.le_refl _) _).alloc (by simp [World.size_alloc]) _
      have g1 : w3.cell? ⟨P, 0, none⟩ = some (.map (some mb)) := by
        rw [hw3]; subst hP; go_simp
      have g2 : w3.cell? ⟨P + 1, 0, none⟩ = some (.func (.func 26) #[] #[.pointer (some ⟨P, 0, none⟩), .pointer (some ⟨P + 1, 0, none⟩)]) := by
        rw [hw3]; subst hP; go_simp
      have HM3 := hide (HM2.out.below B3)
      have HB3 := hide (HB2.out.trans (B3.mono HB2.out.size))
      clear hw3 B3 hP HB2 HM2
      have hML : (ps.map lf).length = n := by rw [List.length_map, HL.out]
      have HG1 := hide g1
      have HG2 := hide g2
      clear g1 g2
      go_loopw [7, 20] (fun s u wr => ∃ (i A : Nat), i ≤ 10 ∧ A ≤ 10000000 * i ∧ u = .int .i64 i ∧ s = .int .i64 A ∧ Hid (A = sumTo (fun v => rwN n (ps.map lf) v) i) ∧ Hid (Mp wr mb (cntF (ps.map lf))) ∧ Hid (w3.grownBy wr (some mb))) (fun _ u _ => 10 - (intOf u).toNat)
      case atStart => exact ⟨0, 0, by omega, by omega, rfl, rfl, hide rfl, HM3, hide (World.grownBy.refl _ _)⟩
      case round =>
        obtain ⟨i, A, hi, hA, rfl, rfl, HA, HMr, HGr⟩ := hrel
        by_cases hi10 : i < 10
        · have hi' : (i : Int) < 10 := by omega
          have l3 := HGr.out.cell HG1.out (map_ne HM3.out HG1.out)
          have g3 := HGr.out.cell HG2.out (map_ne HM3.out HG2.out)
          go_wp2_with fail
          refine (rows1_any P (P + 1) mb n (by omega) (ps.map lf) i hi10 wr HMr.out l3 g3 (by rw [hML]; omega)).mono ?_
          rintro e w4 ⟨rfl, hM4, hG4⟩
          have HM4 := hide hM4
          have HG4 := hide (grown_trans HGr.out hG4)
          have hb := rwN_le n (ps.map lf) i
          have hpw := pow_bound n (by omega)
          obtain ⟨y, hy⟩ : ∃ y, rwN n (ps.map lf) i = y := ⟨_, rfl⟩
          rw [hy] at hb
          rw [hy]
          obtain ⟨A2, hA2⟩ : ∃ A2, A + y = A2 := ⟨_, rfl⟩
          have hA2e : (A : Int) + (y : Int) = (A2 : Int) := by omega
          have hA2b : A2 ≤ 10000000 * (i + 1) := by omega
          have HA2 : Hid (A2 = sumTo (fun v => rwN n (ps.map lf) v) (i + 1)) := hide (by rw [sumTo, ← HA.out, hy, hA2])
          clear hM4 hG4 hy hA2 l3 g3 hpw hb
          go_wp2_with fail
          go_roundw
          case rel => exact ⟨i + 1, A2, by omega, hA2b, by go_num, rfl, HA2, HM4, HG4⟩
          case measure => simp [intOf]; omega
        · have hi' : ¬ (i : Int) < 10 := by omega
          obtain rfl : i = 10 := by omega
          have hAV : A = V := by rw [HA.out, HVE.out]
          subst hAV
          have HB4 := hide (HB3.out.grown HGr.out HB3.out.size (fun k hk => by cases hk; exact HMS.out))
          go_wp2_with fail
          go_ret2
          exact ⟨rfl, HB4.out⟩
  · obtain ⟨E, hE⟩ : ∃ E, fltE ps 7 = E := ⟨_, rfl⟩
    have HV : Hid (rowsV ps = (0, E)) := hide (by rw [rowsV, if_pos hf, hE])
    rw [HV.out]
    have HE := hide hE
    have hE1 : (E != 0) = true := by rw [← hE]; simpa using hf
    clear hE hf
    go_enter Try.func9, Try.ntmps9
    go_wp2_with fail
    refine (fault_any a n c ps 7 w HH.out).mono ?_
    rintro e w1 ⟨rfl, hB1⟩
    rw [HE.out]
    have HB1 := hide hB1
    clear hB1
    go_wp2_with fail
    go_ret2
    exact ⟨rfl, HB1.out⟩

end Go.Proofs.Ytjcglpnpdalcjaa
