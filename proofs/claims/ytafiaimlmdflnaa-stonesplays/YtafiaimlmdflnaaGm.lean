/-
  Boards compared; no board. No conditions beyond those that each theorem bears.
-/
import Derived.Test.YtafiaimlmdflnaaHs
namespace Go.Proofs.Ytafiaimlmdflnaa
open Go.RowKit

set_option maxHeartbeats 400000 in
theorem sameInts2_any (a b : Option Addr) (n c m d : Nat) (xs ys : List Int) (w : World) (hx : Rd w a n c xs) (hy : Rd w b m d ys) :
    Calls Try.prog 42 #[.slice a n c, .slice b m d] w fun e w' => e = .returned (.bool (decide (xs = ys))) ∧ ∃ k, w' = w.drewN k := by
  have hmx := hx.max
  have hcx := hx.cap
  have hmy := hy.max
  have hcy := hy.cap
  unfold maxLen at hmx hmy
  by_cases hnm : n = m
  · subst hnm
    have hne : ((n : Int) != (n : Int)) = false := by simp
    by_cases h0 : n = 0
    · subst h0
      have ex : xs = [] := List.eq_nil_of_length_eq_zero hx.len
      have ey : ys = [] := List.eq_nil_of_length_eq_zero hy.len
      subst ex ey
      go_enter Try.func42, Try.ntmps42
      go_wp2
      refine wp_loop_rounds 1 ?_
      rw [rounds_succ]
      go_wp2
      go_ret
      exact ⟨rfl, 0, rfl⟩
    · obtain ⟨b1, o1, rfl, hc1⟩ := hx.cells (by omega)
      obtain ⟨b2, o2, rfl, hc2⟩ := hy.cells (by omega)
      have lx : Hid (xs.length = n) := hx.len
      have ly : Hid (ys.length = n) := hy.len
      clear hx hy
      go_enter Try.func42, Try.ntmps42
      go_wp2
      go_loopw [5] (fun i wr => ∃ k q : Nat, k ≤ n ∧ i = .int .i64 k ∧ wr = w.drewN q ∧ Hid (xs.take k = ys.take k)) (fun i _ => n - (intOf i).toNat)
      case atStart => exact ⟨0, 0, by omega, rfl, rfl, by simp [Hid]⟩
      case round =>
        obtain ⟨k, q, hk, rfl, rfl, hq⟩ := hrel
        by_cases hlt : k < n
        · have e1 := hc1 k hlt
          have e2 := hc2 k hlt
          clear hc1 hc2
          have hlt' : (k : Int) < (n : Int) := by omega
          have hs := take_succ_eq xs ys k (by rw [lx.out]; exact hlt) (by rw [ly.out]; exact hlt)
          have HS := hide hs
          clear hs
          by_cases hv : xs.getD k 0 = ys.getD k 0
          · have hb : (xs[k]?.getD 0 != ys[k]?.getD 0) = false := by simpa using hv
            have HV := hide hv
            clear hv
            go_wp2
            go_quiet (fail)
            go_wp2
            go_roundw
            case rel => exact ⟨k + 1, _, by omega, by go_num, rfl, HS.out.2 ⟨hq.out, HV.out⟩⟩
            case measure => simp [intOf]; omega
          · have hb : (xs[k]?.getD 0 != ys[k]?.getD 0) = true := by simpa using hv
            go_wp2
            go_quiet (fail)
            go_wp2
            go_ret
            exact ⟨ret_bool (by symm; rw [decide_eq_false_iff_not]; rintro rfl; exact hv rfl), _, World.drewN_drewN _ _ _⟩
        · have hlt' : ¬ (k : Int) < (n : Int) := by omega
          obtain rfl : k = n := by omega
          go_wp2
          go_ret
          refine ⟨ret_bool ?_, _, rfl⟩
          symm
          rw [decide_eq_true_iff]
          have h1 := hq.out
          rw [List.take_of_length_le (by rw [lx.out]; exact Nat.le_refl _), List.take_of_length_le (by rw [ly.out]; exact Nat.le_refl _)] at h1
          exact h1
  · have hne : ((n : Int) != (m : Int)) = true := by rw [bne_iff_ne]; omega
    go_enter Try.func42, Try.ntmps42
    go_wp2
    go_ret
    exact ⟨ret_bool (by symm; rw [decide_eq_false_iff_not]; rintro rfl; exact hnm (hx.len.symm.trans hy.len)), 0, rfl⟩



set_option maxHeartbeats 1000000 in
theorem SameGrid_yes (W H : Int) (a b : Option Addr) (n c d : Nat) (xs : List Int) (w : World) (hx : Rd w a n c xs) (hy : Rd w b n d xs) :
    Calls Try.prog 17 #[.agg (gdA W H a n c), .agg (gdA W H b n d)] w fun e w' => e = .returned (.bool true) ∧ Below w.heap.size w w' := by
  obtain ⟨w1, hw1⟩ : ∃ w1, (w.alloc (.cells (gdA W H a n c) 24)).alloc (.cells (gdA W H b n d) 24) = w1 := ⟨_, rfl⟩
  have HB : Hid (Below w.heap.size w w1) := hide (by rw [← hw1]; exact ((Below.refl _ _).alloc (Nat.le_refl _) _).alloc (by simp) _)
  have HS := hide (sameInts2_any a b n c n d xs xs w1 (hx.mono HB.out) (hy.mono HB.out))
  rw [decide_eq_true rfl] at HS
  obtain ⟨g0, g1, g2⟩ := (show Gd w1 w.heap.size W H a n c by rw [← hw1]; exact (Gd.new w _ _ _ _ _).old _).cells
  obtain ⟨k0, k1, k2⟩ := (show Gd w1 (w.heap.size + 1) W H b n d by rw [← hw1]; have := Gd.new (w.alloc (.cells (gdA W H a n c) 24)) W H b n d; rw [World.size_alloc] at this; exact this).cells
  clear hx hy
  go_enter Try.func17, Try.ntmps17
  go_upto_region 1 with fail
  clear hw1
  go_wp2_with fail
  refine HS.out.mono ?_
  rintro e w2 ⟨rfl, q, rfl⟩
  have HB2 := hide (HB.out.trans (drewN_below w.heap.size w1 q))
  clear g0 g1 g2 k0 k1 k2 HS
  go_wp2_with fail
  go_ret
  exact ⟨rfl, HB2.out⟩

set_option maxHeartbeats 1000000 in
theorem noGrid_zero (w : World) : Calls Try.prog 13 #[.agg (gdA 0 0 none 0 0)] w fun e w' => e = .returned (.bool true) ∧ Below w.heap.size w w' := by
  go_enter Try.func13, Try.ntmps13
  go_wp2
  go_ret
  exact ⟨rfl, (Below.refl _ _).alloc (Nat.le_refl _) _⟩

end Go.Proofs.Ytafiaimlmdflnaa
