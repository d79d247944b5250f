/-
  The reference: whose turn it is, how many places are empty. No conditions beyond those that each theorem bears.
-/
import Derived.Test.YthdnbbjehcicbaaDoorMov
namespace Go.Proofs.YthdnbbjehcicbaaDoor
open Go.RowKit

attribute [local irreducible] cnt emp

set_option maxRecDepth 100000 in
set_option maxHeartbeats 2000000 in
theorem GridMover_any (W H : Int) (a : Option Addr) (n c : Nat) (zs : List Int) (hn : n ≤ 100) (hz : ∀ i, i < n → 0 ≤ zs.getD i 0 ∧ zs.getD i 0 ≤ 2) (w : World) (h : Rd w a n c zs) :
    Calls Tryd.prog 13 #[.agg (gdA W H a n c)] w fun e w' => e = .returned (.int .i64 (mvO zs : Nat)) ∧ Below w.heap.size w w' := by
  have hlen := h.len
  have hcm := h.max
  unfold maxLen at hcm
  have hcc := h.cap
  obtain ⟨w1, hw1⟩ : ∃ w1, w.alloc (.cells (gdA W H a n c) 24) = w1 := ⟨_, rfl⟩
  have B1 : Below w.heap.size w w1 := by rw [← hw1]; exact (Below.refl _ w).alloc (Nat.le_refl _) _
  have G1 : Gd w1 w.heap.size W H a n c := by rw [← hw1]; exact Gd.new w W H a n c
  have HR := hide (h.mono B1)
  have HB1 := hide B1
  have HL := hide hlen
  obtain ⟨-, -, g2⟩ := G1.cells
  have hmv : mvO zs = if cnt zs 1 n = cnt zs 2 n then 1 else if cnt zs 1 n = cnt zs 2 n + 1 then 2 else 0 := by unfold mvO; rw [hlen]
  have HMV := hide hmv
  obtain ⟨M, hM⟩ : ∃ M, mvO zs = M := ⟨_, rfl⟩
  rw [hM] at HMV ⊢
  have HZ := hide hz
  clear h B1 G1 hlen hmv hM hz
  go_enter Tryd.func13, Tryd.ntmps13
  go_upto_region 1 with fail
  clear hw1
  go_wp2_with fail
  go_loopw [3, 4] (fun u v wr => ∃ (j : Nat) (d : Int), v = .int .i64 j ∧ j ≤ n ∧ u = .int .i64 d ∧ Hid (d = (cnt zs 1 j : Int) - (cnt zs 2 j : Int)) ∧ wr = w1) (fun _ v _ => n - (intOf v).toNat)
  case atStart => exact ⟨0, 0, rfl, by omega, rfl, hide (by rw [cnt_zero, cnt_zero]; rfl), rfl⟩
  case round =>
    obtain ⟨j, d, rfl, hj, rfl, hD, rfl⟩ := hrel
    by_cases hlt : j < n
    · have hlt' : (j : Int) < (n : Int) := by omega
      obtain ⟨b, off, ea, hc⟩ := HR.out.cells (by omega)
      subst ea
      have cj := hc j hlt
      have hz := HZ.out j hlt
      have h1 := cnt_succ (v := 1) (show j < zs.length by rw [HL.out]; exact hlt)
      have h2 := cnt_succ (v := 2) (show j < zs.length by rw [HL.out]; exact hlt)
      have l1 := cnt_le zs 1 j
      have l2 := cnt_le zs 2 j
      have hd1 : d ≤ 100 := by have := hD.out; omega
      have hd2 : -100 ≤ d := by have := hD.out; omega
      obtain ⟨z, hze⟩ : ∃ z, zs.getD j 0 = z := ⟨_, rfl⟩
      rw [hze] at cj hz h1 h2
      clear hze hc
      have H1 := hide h1
      have H2 := hide h2
      clear h1 h2 l1 l2
      rcases (show z = 0 ∨ z = 1 ∨ z = 2 by omega) with rfl | rfl | rfl
      · have hN : d = (cnt zs 1 (j + 1) : Int) - (cnt zs 2 (j + 1) : Int) := by rw [H1.out, H2.out, if_neg (by omega), if_neg (by omega)]; exact hD.out
        have HN := hide hN
        clear hN
        go_wp2_with fail
        exact ⟨⟨j + 1, d, by go_num, by omega, rfl, HN, trivial⟩, by simp [intOf]; omega⟩
      · have hN : d + 1 = (cnt zs 1 (j + 1) : Int) - (cnt zs 2 (j + 1) : Int) := by rw [H1.out, H2.out, if_pos rfl, if_neg (by omega)]; have := hD.out; omega
        have HN := hide hN
        clear hN
        go_wp2_with fail
        exact ⟨⟨j + 1, d + 1, by go_num, by omega, rfl, HN, trivial⟩, by simp [intOf]; omega⟩
      · have hN : d - 1 = (cnt zs 1 (j + 1) : Int) - (cnt zs 2 (j + 1) : Int) := by rw [H1.out, H2.out, if_neg (by omega), if_pos rfl]; have := hD.out; omega
        have HN := hide hN
        clear hN
        go_wp2_with fail
        exact ⟨⟨j + 1, d - 1, by go_num, by omega, rfl, HN, trivial⟩, by simp [intOf]; omega⟩
    · have hlt' : ¬ (j : Int) < (n : Int) := by omega
      have hje : j = n := by omega
      subst hje
      have hd := hD.out
      have hm := HMV.out
      generalize cnt zs 1 j = k1 at *
      generalize cnt zs 2 j = k2 at *
      by_cases e1 : k1 = k2
      · rw [if_pos e1] at hm
        subst hm
        have hb : d = 0 := by omega
        subst hb
        clear hd hD
        go_wp2_with fail
        go_ret
        exact ⟨rfl, HB1.out⟩
      · rw [if_neg e1] at hm
        by_cases e2 : k1 = k2 + 1
        · rw [if_pos e2] at hm
          subst hm
          have hb : d = 1 := by omega
          subst hb
          clear hd hD e1 e2
          go_wp2_with fail
          go_ret
          exact ⟨rfl, HB1.out⟩
        · rw [if_neg e2] at hm
          subst hm
          have hb : (d == 0) = false := by simp; omega
          have hb2 : (d == 1) = false := by simp; omega
          clear hd hD e1 e2
          go_wp2_with fail
          go_ret
          exact ⟨rfl, HB1.out⟩

set_option maxRecDepth 100000 in
set_option maxHeartbeats 2000000 in
theorem OpenPlaces_any (W H : Int) (a : Option Addr) (n c : Nat) (zs : List Int) (hn : n ≤ 100) (w : World) (h : Rd w a n c zs) :
    Calls Tryd.prog 14 #[.agg (gdA W H a n c)] w fun e w' => e = .returned (.int .i64 ((emp zs n).length : Nat)) ∧ Below w.heap.size w w' := by
  have hlen := h.len
  have hcm := h.max
  unfold maxLen at hcm
  have hcc := h.cap
  obtain ⟨w1, hw1⟩ : ∃ w1, w.alloc (.cells (gdA W H a n c) 24) = w1 := ⟨_, rfl⟩
  have B1 : Below w.heap.size w w1 := by rw [← hw1]; exact (Below.refl _ w).alloc (Nat.le_refl _) _
  have G1 : Gd w1 w.heap.size W H a n c := by rw [← hw1]; exact Gd.new w W H a n c
  have HR := hide (h.mono B1)
  have HB1 := hide B1
  have HL := hide hlen
  obtain ⟨-, -, g2⟩ := G1.cells
  clear h B1 G1 hlen
  go_enter Tryd.func14, Tryd.ntmps14
  go_upto_region 1 with fail
  clear hw1
  go_wp2_with fail
  go_loopw [3, 4] (fun u v wr => ∃ (j : Nat), v = .int .i64 j ∧ j ≤ n ∧ u = .int .i64 ((emp zs j).length : Nat) ∧ wr = w1) (fun _ v _ => n - (intOf v).toNat)
  case atStart => exact ⟨0, rfl, by omega, by rw [emp_zero]; rfl, rfl⟩
  case round =>
    obtain ⟨j, rfl, hj, rfl, rfl⟩ := hrel
    by_cases hlt : j < n
    · have hlt' : (j : Int) < (n : Int) := by omega
      obtain ⟨b, off, ea, hc⟩ := HR.out.cells (by omega)
      subst ea
      have cj := hc j hlt
      have hml := emp_len zs j
      have HI := hide (fun h => emp_in (zs := zs) (j := j) h)
      have HU := hide (fun h => emp_out (zs := zs) (j := j) h)
      obtain ⟨z, hze⟩ : ∃ z, zs.getD j 0 = z := ⟨_, rfl⟩
      rw [hze] at cj HI HU
      clear hze hc
      by_cases hz0 : z = 0
      · have HE : Hid ((emp zs (j + 1)).length = (emp zs j).length + 1) := hide (by rw [HI.out hz0]; simp)
        subst hz0
        clear HI HU
        go_wp2_with fail
        refine ⟨⟨j + 1, by go_num, by omega, ?_, trivial⟩, by simp [intOf]; omega⟩
        rw [HE.out]; go_num
      · have HE : Hid ((emp zs (j + 1)).length = (emp zs j).length) := hide (by rw [HU.out hz0])
        have hzb : (z == 0) = false := by simpa using hz0
        clear HI HU
        go_wp2_with fail
        refine ⟨⟨j + 1, by go_num, by omega, ?_, trivial⟩, by simp [intOf]; omega⟩
        rw [HE.out]
    · have hlt' : ¬ (j : Int) < (n : Int) := by omega
      have hje : j = n := by omega
      subst hje
      go_wp2_with fail
      go_ret
      exact ⟨rfl, HB1.out⟩

end Go.Proofs.YthdnbbjehcicbaaDoor
