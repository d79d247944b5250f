/-
  The document's own question for a row that begins at a place. No conditions beyond those that each theorem bears.
-/
import Derived.Test.YthdnbbjehcicbaaDoorWon
namespace Go.Proofs.YthdnbbjehcicbaaDoor
open Go.RowKit

theorem mul_bd {dx : Int} {i : Nat} (h : dx = 1 ∨ dx = -1 ∨ dx = 0) (hi : i ≤ 10) : -10 ≤ dx * (i : Int) ∧ dx * (i : Int) ≤ 10 := by
  rcases h with rfl | rfl | rfl <;> omega

theorem rf_yes {W H : Nat} {zs : List Int} {k x y d : Nat} (h : ∀ j : Nat, j < k → cl W H zs (x + rdx d * j) (y + rdy d * j) = zs.getD (y * W + x) 0) : rf W H zs k x y d = zs.getD (y * W + x) 0 := by
  unfold rf
  rw [if_pos]
  intro j hj
  rw [Int.mul_comm _ (rdx d), Int.mul_comm _ (rdy d)]
  exact h j hj

theorem rf_no {W H : Nat} {zs : List Int} {k x y d i : Nat} (hi : i < k) (h : cl W H zs (x + rdx d * i) (y + rdy d * i) ≠ zs.getD (y * W + x) 0) : rf W H zs k x y d = 0 := by
  unfold rf
  rw [if_neg]
  intro hr
  apply h
  have := hr i hi
  rw [Int.mul_comm _ (rdx d), Int.mul_comm _ (rdy d)] at this
  exact this

theorem cl_onN {W H : Nat} {zs : List Int} {x y : Int} {Q : Nat} (hb : onB W H x y = true) (hQ : (y * W + x).toNat = Q) : cl W H zs x y = zs.getD Q 0 := by
  unfold cl
  rw [if_pos hb, hQ]

theorem cl_offN {W H : Nat} {zs : List Int} {x y : Int} (hb : onB W H x y = false) : cl W H zs x y = -1 := by
  unfold cl
  rw [if_neg (by rw [hb]; simp)]

attribute [local irreducible] cl rf rdx rdy onB

set_option maxRecDepth 100000 in
set_option maxHeartbeats 4000000 in
theorem rowFrom_any (gW gH : Nat) (a : Option Addr) (n c x y d k : Nat) (zs : List Int) (hgW : 1 ≤ gW ∧ gW ≤ 10) (hgH : 1 ≤ gH ∧ gH ≤ 10) (hm : gW * gH = n) (hx : x < gW) (hy : y < gH) (hd : d < 4) (hk : k ≤ 10) (hz : ∀ i, i < n → 0 ≤ zs.getD i 0) (w : World) (h : Rd w a n c zs) :
    Calls Tryd.prog 27 #[.agg (gdA gW gH a n c), .int .i64 x, .int .i64 y, .int .i64 (rdx d), .int .i64 (rdy d), .int .i64 k] w fun e w' => e = .returned (.int .i64 (rf gW gH zs k x y d)) ∧ Below w.heap.size w w' := by
  have hcm := h.max
  unfold maxLen at hcm
  have hcc := h.cap
  have hb0 : onB gW gH x y = true := onB_iff.2 (by omega)
  obtain ⟨xn0, yn0, A0, Q0, e1, e2, -, -, hA0, hQ0, hQm0, hidx0⟩ := on_nat hm hb0
  have hnq : n ≤ 100 := by
    have : gW * gH ≤ 10 * 10 := Nat.mul_le_mul hgW.2 hgH.2
    omega
  rw [← e1] at hQ0
  rw [← e2] at hA0
  clear e1 e2 xn0 yn0
  have hq0 : y * gW + x = Q0 := by
    have : (((y * gW + x : Nat) : Int)) = (Q0 : Int) := by rw [Int.natCast_add, Int.natCast_mul, hA0, hQ0]
    omega
  have HY := hide (rf_yes (W := gW) (H := gH) (zs := zs) (k := k) (x := x) (y := y) (d := d))
  have HN := hide (fun i => rf_no (W := gW) (H := gH) (zs := zs) (k := k) (x := x) (y := y) (d := d) (i := i))
  have hdir := rd_dir hd
  rw [hq0] at HY HN
  obtain ⟨dx, hdx⟩ : ∃ dx, rdx d = dx := ⟨_, rfl⟩
  obtain ⟨dy, hdy⟩ : ∃ dy, rdy d = dy := ⟨_, rfl⟩
  obtain ⟨R, hR⟩ : ∃ R, rf gW gH zs k x y d = R := ⟨_, rfl⟩
  rw [hdx, hdy] at HY HN hdir ⊢
  rw [hR] at HY HN ⊢
  have HD1 := hide hdir.1
  have HD2 := hide hdir.2.1
  obtain ⟨b, off, rfl, hc⟩ := h.cells (by omega)
  have hgb : b < w.heap.size := World.block_lt_of_cell? w _ (hc 0 (by omega))
  obtain ⟨w1, hw1⟩ : ∃ w1, w.alloc (.cells (gdA gW gH (some ⟨b, off, none⟩) n c) 24) = w1 := ⟨_, rfl⟩
  have HB : Hid (Below w.heap.size w w1) := hide (by rw [← hw1]; exact (Below.refl _ _).alloc (Nat.le_refl _) _)
  have HC : Hid (∀ i, i < n → w1.cell? ⟨b, off + i, none⟩ = some (.int .i64 (zs.getD i 0))) := hide (fun i hi => (HB.out.cell (p := ⟨b, off + i, none⟩) hgb).trans (hc i hi))
  obtain ⟨g0, g1, g2⟩ := (show Gd w1 w.heap.size gW gH (some ⟨b, off, none⟩) n c by rw [← hw1]; exact Gd.new _ _ _ _ _ _).cells
  have c0 := HC.out Q0 hQm0
  have HW := hide (hz Q0 hQm0)
  obtain ⟨who, hwho⟩ : ∃ who, zs.getD Q0 0 = who := ⟨_, rfl⟩
  rw [hwho] at c0 HY HN HW
  have HM := hide hm
  clear hdx hdy hR h hc hwho hq0 hidx0 hb0 hdir hm hz
  go_enter Tryd.func27, Tryd.ntmps27
  go_upto_region 1 with fail
  clear hw1
  go_wp2_with fail
  clear c0 hA0 hQ0
  go_loopw [14] (fun v wr => ∃ i : Nat, v = .int .i64 i ∧ i ≤ k ∧ Hid (∀ j : Nat, j < i → cl gW gH zs (x + dx * j) (y + dy * j) = who) ∧ w1 = wr) (fun v _ => k - (intOf v).toNat)
  case atStart => exact ⟨0, rfl, by omega, hide (fun j hj => absurd hj (by omega)), rfl⟩
  case round =>
    obtain ⟨i, rfl, hik, hall, rfl⟩ := hrel
    by_cases hlt : i < k
    · have hlt' : (i : Int) < (k : Int) := by omega
      have HN1 := hide (HN.out i hlt)
      have HNX : Hid (cl gW gH zs (x + dx * i) (y + dy * i) = who → ∀ j : Nat, j < i + 1 → cl gW gH zs (x + dx * j) (y + dy * j) = who) := hide (fun h j hj => by
        by_cases e : j = i
        · subst e; exact h
        · exact hall.out j (by omega))
      have hp := mul_bd HD1.out (show i ≤ 10 by omega)
      have hq := mul_bd HD2.out (show i ≤ 10 by omega)
      obtain ⟨P, hP⟩ : ∃ P, dx * (i : Int) = P := ⟨_, rfl⟩
      obtain ⟨Q, hQ⟩ : ∃ Q, dy * (i : Int) = Q := ⟨_, rfl⟩
      rw [hP] at hp HN1 HNX
      rw [hQ] at hq HN1 HNX
      by_cases hb : onB gW gH (x + P) (y + Q) = true
      · obtain ⟨xn, yn, A, I, ex, ey, hxl, hyl, hA, hI, hIm, hidx⟩ := on_nat HM.out hb
        have ci := HC.out I hIm
        have HCL := hide (cl_onN (zs := zs) hb hidx)
        rw [HCL.out] at HN1 HNX
        have d1 : decide ((0 : Int) ≤ (xn : Int) ∧ (xn : Int) ≤ (gW : Int) - 1) = true := decide_eq_true (by omega)
        have d2 : decide ((0 : Int) ≤ (yn : Int) ∧ (yn : Int) ≤ (gH : Int) - 1) = true := decide_eq_true (by omega)
        clear hb hidx
        obtain ⟨vi, hvi⟩ : ∃ vi, zs.getD I 0 = vi := ⟨_, rfl⟩
        rw [hvi] at ci HN1 HNX
        clear hvi
        go_wp2_with fail
        refine (within_any xn 0 (gW - 1) _).mono ?_
        rintro e wx ⟨rfl, hwx⟩
        subst wx
        rw [d1]
        go_wp2_with fail
        refine (within_any yn 0 (gH - 1) _).mono ?_
        rintro e wx ⟨rfl, hwx⟩
        subst wx
        rw [d2]
        by_cases hv : vi = who
        · have hne : (vi != who) = false := by simp [hv]
          have HNN := hide (HNX.out hv)
          clear hv
          go_wp2_with fail
          exact ⟨⟨i + 1, by go_num, by omega, HNN, trivial⟩, by simp [intOf]; omega⟩
        · have hne : (vi != who) = true := by simpa using hv
          have HRR := hide (HN1.out hv)
          clear hv
          go_wp2_with fail
          go_ret
          exact ⟨ret_int HRR.out.symm, HB.out⟩
      · have hb' : onB gW gH (x + P) (y + Q) = false := by simpa using hb
        have HRR : Hid (R = 0) := hide (HN1.out (by rw [cl_offN hb']; have := HW.out; omega))
        have HO : Hid (¬ (0 ≤ (x : Int) + P ∧ (x : Int) + P < gW ∧ 0 ≤ (y : Int) + Q ∧ (y : Int) + Q < gH)) := hide (fun h => hb (onB_iff.2 h))
        clear hb hb'
        by_cases h1 : 0 ≤ (x : Int) + P ∧ (x : Int) + P ≤ (gW : Int) - 1
        · have d1 : decide ((0 : Int) ≤ (x : Int) + P ∧ (x : Int) + P ≤ (gW : Int) - 1) = true := decide_eq_true h1
          have d2 : decide ((0 : Int) ≤ (y : Int) + Q ∧ (y : Int) + Q ≤ (gH : Int) - 1) = false := decide_eq_false (fun h2 => HO.out (by omega))
          clear h1
          go_wp2_with fail
          refine (within_any (x + P) 0 (gW - 1) _).mono ?_
          rintro e wx ⟨rfl, hwx⟩
          subst wx
          rw [d1]
          go_wp2_with fail
          refine (within_any (y + Q) 0 (gH - 1) _).mono ?_
          rintro e wx ⟨rfl, hwx⟩
          subst wx
          rw [d2]
          go_wp2_with fail
          go_ret
          exact ⟨ret_int HRR.out.symm, HB.out⟩
        · have d1 : decide ((0 : Int) ≤ (x : Int) + P ∧ (x : Int) + P ≤ (gW : Int) - 1) = false := decide_eq_false h1
          clear h1
          go_wp2_with fail
          refine (within_any (x + P) 0 (gW - 1) _).mono ?_
          rintro e wx ⟨rfl, hwx⟩
          subst wx
          rw [d1]
          go_wp2_with fail
          go_ret
          exact ⟨ret_int HRR.out.symm, HB.out⟩
    · have hlt' : ¬ (i : Int) < (k : Int) := by omega
      have HRR := hide (HY.out (fun j hj => hall.out j (by omega)))
      go_wp2_with fail
      go_ret
      exact ⟨ret_int HRR.out.symm, HB.out⟩

end Go.Proofs.YthdnbbjehcicbaaDoor
