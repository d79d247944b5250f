/-
  Two rows compared, the men of each side counted. No conditions beyond those that each theorem bears.
-/
import Derived.Test.YtmboikpcbkiepaaTold
import Derived.Test.YtmboikpcbkiepaaRef1
namespace Go.Proofs.Ytmboikpcbkiepaa
open Go.RowKit


set_option maxHeartbeats 400000 in
theorem keepSame_any (a b : Option Addr) (n c m d : Nat) (xs ys : List Int) (w : World) (hx : Rd w a n c xs) (hy : Rd w b m d ys) :
    Calls Try.prog 24 #[.slice a n c, .slice b m d] w fun e w' => e = .returned (.bool (decide (xs = ys))) ∧ ∃ k, w' = w.drewN k := by
  have hmx := hx.max
  have hcx := hx.cap
  have hmy := hy.max
  have hcy := hy.cap
  unfold maxLen at hmx hmy
  by_cases hnm : n = m
  · subst hnm
    have hne : ((n : Int) != (n : Int)) = false := by simp
    by_cases h0 : n = 0
    · subst h0
      have ex : xs = [] := List.eq_nil_of_length_eq_zero hx.len
      have ey : ys = [] := List.eq_nil_of_length_eq_zero hy.len
      subst ex ey
      go_enter Try.func24, Try.ntmps24
      go_wp2
      refine wp_loop_rounds 1 ?_
      rw [rounds_succ]
      go_wp2
      go_ret
      exact ⟨rfl, 0, rfl⟩
    · obtain ⟨b1, o1, rfl, hc1⟩ := hx.cells (by omega)
      obtain ⟨b2, o2, rfl, hc2⟩ := hy.cells (by omega)
      have lx : Hid (xs.length = n) := hx.len
      have ly : Hid (ys.length = n) := hy.len
      clear hx hy
      go_enter Try.func24, Try.ntmps24
      go_wp2
      go_loopw [5] (fun i wr => ∃ k q : Nat, k ≤ n ∧ i = .int .i64 k ∧ wr = w.drewN q ∧ Hid (xs.take k = ys.take k)) (fun i _ => n - (intOf i).toNat)
      case atStart => exact ⟨0, 0, by omega, rfl, rfl, by simp [Hid]⟩
      case round =>
        obtain ⟨k, q, hk, rfl, rfl, hq⟩ := hrel
        by_cases hlt : k < n
        · have e1 := hc1 k hlt
          have e2 := hc2 k hlt
          clear hc1 hc2
          have hlt' : (k : Int) < (n : Int) := by omega
          have hs := take_succ_eq xs ys k (by rw [lx.out]; exact hlt) (by rw [ly.out]; exact hlt)
          have HS := hide hs
          clear hs
          by_cases hv : xs.getD k 0 = ys.getD k 0
          · have hb : (xs[k]?.getD 0 != ys[k]?.getD 0) = false := by simpa using hv
            have HV := hide hv
            clear hv
            go_wp2
            go_quiet (fail)
            go_wp2
            go_roundw
            case rel => exact ⟨k + 1, _, by omega, by go_num, rfl, HS.out.2 ⟨hq.out, HV.out⟩⟩
            case measure => simp [intOf]; omega
          · have hb : (xs[k]?.getD 0 != ys[k]?.getD 0) = true := by simpa using hv
            go_wp2
            go_quiet (fail)
            go_wp2
            go_ret
            exact ⟨ret_bool (by symm; rw [decide_eq_false_iff_not]; rintro rfl; exact hv rfl), _, World.drewN_drewN _ _ _⟩
        · have hlt' : ¬ (k : Int) < (n : Int) := by omega
          obtain rfl : k = n := by omega
          go_wp2
          go_ret
          refine ⟨ret_bool ?_, _, rfl⟩
          symm
          rw [decide_eq_true_iff]
          have h1 := hq.out
          rw [List.take_of_length_le (by rw [lx.out]; exact Nat.le_refl _), List.take_of_length_le (by rw [ly.out]; exact Nat.le_refl _)] at h1
          exact h1
  · have hne : ((n : Int) != (m : Int)) = true := by rw [bne_iff_ne]; omega
    go_enter Try.func24, Try.ntmps24
    go_wp2
    go_ret
    exact ⟨ret_bool (by symm; rw [decide_eq_false_iff_not]; rintro rfl; exact hnm (hx.len.symm.trans hy.len)), 0, rfl⟩



/-- White's and black's men among the first points. -/
def wj (W : Int) (P : List Int) (j : Nat) : Int := W + ((P.take j).map up).sum
def bj (B : Int) (P : List Int) (j : Nat) : Int := B + ((P.take j).map fun z => up (-z)).sum

theorem wj_zero (W : Int) (P : List Int) : wj W P 0 = W := by simp [wj]
theorem bj_zero (B : Int) (P : List Int) : bj B P 0 = B := by simp [bj]
theorem wj_succ {W : Int} {P : List Int} {j : Nat} (h : j < P.length) : wj W P (j + 1) = wj W P j + up (P.getD j 0) := by
  unfold wj
  rw [List.take_succ_eq_append_getElem h, List.map_append, List.sum_append]
  simp [List.getD, h]
  omega
theorem bj_succ {B : Int} {P : List Int} {j : Nat} (h : j < P.length) : bj B P (j + 1) = bj B P j + up (-(P.getD j 0)) := by
  unfold bj
  rw [List.take_succ_eq_append_getElem h, List.map_append, List.sum_append]
  simp [List.getD, h]
  omega
theorem wj_all {W : Int} {P : List Int} : wj W P P.length = (ws W P).sum := by simp [wj, ws]
theorem bj_all {B : Int} {P : List Int} : bj B P P.length = (bs B P).sum := by simp [bj, bs]

set_option maxRecDepth 100000 in
set_option maxHeartbeats 4000000 in
theorem men_any (a : Option Addr) (c : Nat) (P : List Int) (W B T : Int) (w : World) (h : Rd w a 26 c P) (hz : ∀ z ∈ P, -15 ≤ z ∧ z ≤ 15) (hW : 0 ≤ W ∧ W ≤ 15) (hB : 0 ≤ B ∧ B ≤ 15) :
    Calls Try.prog 23 #[.agg (gmA a 26 c W B T)] w fun e w' => e = .returned (.tuple #[.int .i64 (ws W P).sum, .int .i64 (bs B P).sum]) ∧ Below w.heap.size w w' := by
  have hcm := h.max
  unfold maxLen at hcm
  have hcc := h.cap
  have hl : P.length = 26 := h.len
  obtain ⟨b, off, rfl, hc⟩ := h.cells (by omega)
  have HV : Hid (∀ j, j < 26 → -15 ≤ P.getD j 0 ∧ P.getD j 0 ≤ 15) := hide (fun j hj => hz _ (by simp [List.getD, hl, hj]))
  have HWS := hide (fun j (hj : j < 26) => wj_succ (W := W) (P := P) (j := j) (by omega))
  have HBS := hide (fun j (hj : j < 26) => bj_succ (B := B) (P := P) (j := j) (by omega))
  have HWA : Hid (wj W P 26 = (ws W P).sum) := hide (by rw [← hl]; exact wj_all)
  have HBA : Hid (bj B P 26 = (bs B P).sum) := hide (by rw [← hl]; exact bj_all)
  obtain ⟨w1, hw1⟩ : ∃ w1, w.alloc (.cells (gmA (some ⟨b, off, none⟩) 26 c W B T) 24) = w1 := ⟨_, rfl⟩
  have HB1 : Hid (Below w.heap.size w w1) := hide (by rw [← hw1]; exact (Below.refl _ _).alloc (Nat.le_refl _) _)
  have G1 : Gm w1 w.heap.size (some ⟨b, off, none⟩) 26 c W B T := by rw [← hw1]; exact Gm.new _ _ _ _ _ _ _
  have HC : Hid (∀ j, j < 26 → w1.cell? ⟨b, off + j, none⟩ = some (.int .i64 (P.getD j 0))) := hide (fun j hj => ((h.mono HB1.out).cell hj).2)
  have HZW := hide (wj_zero W P)
  have HZB := hide (bj_zero B P)
  obtain ⟨g0, g1, g2, g3⟩ := G1.cells
  clear h hz hc hl
  go_enter Try.func23, Try.ntmps23
  go_upto_region 1 with fail
  clear hw1
  go_quiet (fail)
  go_wp2
  go_loopw [4, 5, 6] (fun u v x wr => ∃ (j q : Nat) (s t : Int), x = .int .i64 j ∧ u = .int .i64 s ∧ v = .int .i64 t ∧ j ≤ 26 ∧ (0 ≤ s ∧ s ≤ 15 + 15 * (j : Int)) ∧ (0 ≤ t ∧ t ≤ 15 + 15 * (j : Int)) ∧ Hid (s = wj W P j) ∧ Hid (t = bj B P j) ∧ wr = w1.drewN q) (fun _ _ x _ => 26 - (intOf x).toNat)
  case atStart => exact ⟨0, _, W, B, rfl, rfl, rfl, by omega, by omega, by omega, hide HZW.out.symm, hide HZB.out.symm, rfl⟩
  case round =>
    obtain ⟨j, q, s, t, rfl, rfl, rfl, hj, hs, ht, hS, hT, rfl⟩ := hrel
    by_cases hlt : j < 26
    · have hlt' : (j : Int) < 26 := by omega
      have cj := HC.out j hlt
      have hv := HV.out j hlt
      have HW1 := hide (HWS.out j hlt)
      have HB2 := hide (HBS.out j hlt)
      obtain ⟨z, hz⟩ : ∃ z, P.getD j 0 = z := ⟨_, rfl⟩
      rw [hz] at cj hv HW1 HB2
      clear hz
      by_cases hz0 : 0 < z
      · have hz1 : z > 0 := hz0
        have HN1 : Hid (s + z = wj W P (j + 1)) := hide (by rw [HW1.out, ← hS.out]; unfold up; rw [if_pos (by omega)])
        have HN2 : Hid (t = bj B P (j + 1)) := hide (by rw [HB2.out, ← hT.out]; unfold up; rw [if_neg (by omega)]; omega)
        clear hz0
        go_wp2
        go_roundw
        case rel => exact ⟨j + 1, q, s + z, t, by go_num, rfl, rfl, by omega, by omega, by omega, HN1, HN2, rfl⟩
        case measure => simp [intOf]; omega
      · have hz1 : ¬ z > 0 := hz0
        have HN1 : Hid (s = wj W P (j + 1)) := hide (by rw [HW1.out, ← hS.out]; unfold up; split <;> omega)
        have HN2 : Hid (t - z = bj B P (j + 1)) := hide (by rw [HB2.out, ← hT.out]; unfold up; rw [if_pos (by omega)]; omega)
        clear hz0
        go_wp2
        go_roundw
        case rel => exact ⟨j + 1, q, s, t - z, by go_num, rfl, rfl, by omega, by omega, by omega, HN1, HN2, rfl⟩
        case measure => simp [intOf]; omega
    · have hlt' : ¬ (j : Int) < 26 := by omega
      obtain rfl : j = 26 := by omega
      go_wp2
      go_ret2
      refine ⟨?_, HB1.out.trans (drewN_below _ _ _)⟩
      rw [← HWA.out, ← HBA.out, ← hS.out, ← hT.out]
      rfl


end Go.Proofs.Ytmboikpcbkiepaa
