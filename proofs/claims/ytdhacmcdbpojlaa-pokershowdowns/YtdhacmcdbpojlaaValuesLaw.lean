/-
  The law 'PokerValues': every way through it ends with true. No conditions beyond those that each theorem bears.
-/
import Derived.Test.YtdhacmcdbpojlaaRefBest
namespace Go.Proofs.Ytdhacmcdbpojlaa
open Go.RowKit Go.Shelf

theorem bestG_z (zs : List Int) (h5 : 5 ≤ zs.length) (h7 : zs.length ≤ 7) : bestG ((comb 5 (List.range zs.length)).map (pick (natL zs))) = bestZ zs := by
  obtain ⟨rest, e1, _, _⟩ := sets567 zs.length h5 h7
  rw [bestZ, e1, List.map_cons, bestG_eq]

theorem natL_nodup {zs : List Int} (h : zs.Nodup) (hr : inRange zs = true) : (natL zs).Nodup := by
  have h1 := h
  rw [← toI_natL hr] at h1
  rw [toI, List.Nodup, List.pairwise_map] at h1
  exact h1.imp (fun hne e => hne (by rw [e]))

theorem beq_self_int (x : Int) : (x == x) = true := by simp
theorem bne_self_int (x : Int) : (x != x) = false := by simp

set_option maxRecDepth 100000 in
set_option maxHeartbeats 8000000 in
theorem values_neg (a : Option Addr) (n c : Nat) (zs : List Int) (v : Int) (h1 : -9223372036854775808 ≤ v) (h2 : v ≤ 9223372036854775807) (h0 : v < 0) (w : World) (h : Rd w a n c zs) (hr : n * 8 ≤ 140737488351232) :
    Calls Try.prog 3 #[.slice a n c, .int .i64 v] w fun e w' => e = .returned (.bool true) ∧ Below w.heap.size w w' := by
  have HR := hide h
  have hcm := h.max
  have hcn := h.cap
  unfold maxLen at hcm
  have hlen := hide h.len
  clear h
  have HCV : Hid (classV v = 0) := by show _ = _; rw [classV, if_pos (.inl h0)]
  have HCE : Hid (classE v = 3) := by show _ = _; rw [classE, if_pos (.inl h0)]
  go_enter Try.func3, Try.ntmps3
  go_wp2_with fail
  refine (ints_any a n c zs w HR.out hr).mono ?_
  rintro e w1 ⟨a1, c1, rfl, hR1, hB1⟩
  have HB1 := hide hB1
  have HR1 := hide hR1
  clear hR1 hB1
  go_wp2_with fail
  refine (Value_any a1 n c1 zs w1 HR1.out).mono ?_
  rintro e w2 ⟨rfl, hB2⟩
  have HB2 := hide (HB1.out.trans (hB2.mono HB1.out.size))
  clear hB2 HR1 HB1
  go_wp2_with fail
  refine (ints_any a n c zs w2 (HR.out.mono HB2.out) hr).mono ?_
  rintro e w3 ⟨a3, c3, rfl, hR3, hB3⟩
  have HB3 := hide (HB2.out.trans (hB3.mono HB2.out.size))
  have HR3 := hide hR3
  clear hR3 hB3 HB2
  go_wp2_with fail
  refine (Best_any a3 n c3 zs w3 HR3.out).mono ?_
  rintro e w4 ⟨a4, m4, c4, rfl, hR4, hB4⟩
  have HB4 := hide (HB3.out.trans (hB4.mono HB3.out.size))
  have HR4 := hide hR4
  clear hR4 hB4 HB3 HR3
  go_wp2_with fail
  refine (Class_any v h1 h2 w4).mono ?_
  rintro e w5 ⟨rfl, hw⟩
  subst w5
  rw [HCV.out, HCE.out]
  by_cases h5 : n < 5
  · have e1 : Hid (handE zs = 11) := by show _ = _; rw [handE, if_pos (by rw [hlen.out]; omega)]
    have e2 : Hid (valueV zs = 0) := by show _ = _; rw [valueV, if_neg (by rw [e1.out]; omega)]
    have e3 : m4 = 0 := by have := HR4.out.len; rw [bestL, if_neg (by rw [e1.out]; omega)] at this; simpa using this.symm
    subst e3
    rw [e1.out, e2.out]
    have hd5 : decide ((5 : Int) ≤ (n : Int)) = false := by simp; omega
    go_wp2_with fail
    go_ret
    exact ⟨rfl, HB4.out⟩
  · by_cases h7 : 7 < n
    · have e1 : Hid (handE zs = 11) := by show _ = _; rw [handE, if_pos (by rw [hlen.out]; omega)]
      have e2 : Hid (valueV zs = 0) := by show _ = _; rw [valueV, if_neg (by rw [e1.out]; omega)]
      have e3 : m4 = 0 := by have := HR4.out.len; rw [bestL, if_neg (by rw [e1.out]; omega)] at this; simpa using this.symm
      subst e3
      rw [e1.out, e2.out]
      have hd5 : decide ((5 : Int) ≤ (n : Int)) = true := by simp; omega
      go_wp2_with fail
      go_ret
      exact ⟨rfl, HB4.out⟩
    · have e1 : Hid (handE zs = mayE zs) := by show _ = _; rw [handE, if_neg (by rw [hlen.out]; omega)]
      have hd5 : decide ((5 : Int) ≤ (n : Int)) = true := by simp; omega
      by_cases hm : mayE zs = 0
      · have e0 : handE zs = 0 := e1.out.trans hm
        have e2 : Hid (valueV zs = (bestZ zs).1) := by show _ = _; rw [valueV, if_pos e0]
        have e3 : Hid (bestL zs = toI (bestZ zs).2) := by show _ = _; rw [bestL, if_pos e0]
        obtain ⟨l5, l7, hin, hnd⟩ := handE_zero e0
        have hbz := bestG_z zs l5 l7
        rw [hlen.out] at hbz
        have BF : Hid (∀ w6, Below w.heap.size w w6 → Calls Try.prog 13 #[.slice a n c] w6 fun e w' => ∃ ad m cc, e = .returned (.tuple #[.int .i64 (bestZ zs).1, .slice ad m cc]) ∧ Rd w' ad m cc (toI (bestZ zs).2) ∧ Below w6.heap.size w6 w') := by
          intro w6 hb6
          have := BestFive_any a n c (natL zs) (by omega) (by omega) (natL_lt hin) (natL_nodup hnd hin) w6 (by rw [toI_natL hin]; exact HR.out.mono hb6)
          rw [hbz] at this
          exact this
        have HM := hide hm
        have E0 := hide e0
        rw [e0, e2.out]
        rw [e3.out] at HR4
        obtain ⟨bv, hbv⟩ : ∃ bv, (bestZ zs).1 = bv := ⟨_, rfl⟩
        rw [hbv] at BF ⊢
        clear hm e0 l5 l7 hin hnd hbz hbv
        go_wp2_with fail
        refine (CardsMay_any a n c zs w4 (HR.out.mono HB4.out)).mono ?_
        rintro e w5 ⟨rfl, q, hw⟩
        subst w5
        rw [HM.out]
        go_wp2_with fail
        refine (BF.out _ (HB4.out.trans (drewN_below _ _ _))).mono ?_
        rintro e w6 ⟨a6, m6, c6, rfl, hR6, hB6⟩
        have HB6 := hide ((HB4.out.trans (drewN_below _ w4 q)).trans (hB6.mono HB4.out.size))
        have HR6 := hide hR6
        have HR46 := hide (HR4.out.mono ((drewN_below _ w4 q).trans (hB6.mono (Nat.le_refl _))))
        clear hR6 hB6
        go_wp2_with fail
        refine (sameInts_any a4 a6 m4 c4 m6 c6 _ _ w6 HR46.out HR6.out).mono ?_
        rintro e w7 ⟨rfl, q', hw⟩
        subst w7
        have hdd : decide (toI (bestZ zs).2 = toI (bestZ zs).2) = true := by simp
        rw [hdd]
        go_wp2_with fail
        go_ret
        exact ⟨rfl, HB6.out.trans (drewN_below _ _ _)⟩
      · have e2 : Hid (valueV zs = 0) := by show _ = _; rw [valueV, if_neg (by rw [e1.out]; exact hm)]
        have e3 : m4 = 0 := by have := HR4.out.len; rw [bestL, if_neg (by rw [e1.out]; exact hm)] at this; simpa using this.symm
        subst e3
        rw [e1.out, e2.out]
        obtain ⟨x, hx⟩ : ∃ x, mayE zs = x := ⟨_, rfl⟩
        have CM := hide (CardsMay_any a n c zs w4 (HR.out.mono HB4.out))
        rw [hx] at hm CM ⊢
        have hxn : (x != 0) = true := by simpa using hm
        clear hx
        go_wp2_with fail
        refine CM.out.mono ?_
        rintro e w5 ⟨rfl, q, hw⟩
        subst w5
        go_wp2_with fail
        go_ret
        exact ⟨rfl, HB4.out.trans (drewN_below _ _ _)⟩

set_option maxRecDepth 100000 in
set_option maxHeartbeats 8000000 in
theorem values_big (a : Option Addr) (n c : Nat) (zs : List Int) (v : Int) (h1 : -9223372036854775808 ≤ v) (h2 : v ≤ 9223372036854775807) (h0 : 0 ≤ v) (h9 : 3341637 ≤ v) (w : World) (h : Rd w a n c zs) (hr : n * 8 ≤ 140737488351232) :
    Calls Try.prog 3 #[.slice a n c, .int .i64 v] w fun e w' => e = .returned (.bool true) ∧ Below w.heap.size w w' := by
  have HR := hide h
  have hcm := h.max
  have hcn := h.cap
  unfold maxLen at hcm
  have hlen := hide h.len
  clear h
  have HCV : Hid (classV v = 0) := by show _ = _; rw [classV, if_pos (.inr h9)]
  have HCE : Hid (classE v = 3) := by show _ = _; rw [classE, if_pos (.inr h9)]
  have hd0 : decide (v < 0) = false := by simp; omega
  have hd9 : decide (3341637 ≤ v) = true := by simp; omega
  go_enter Try.func3, Try.ntmps3
  go_wp2_with fail
  refine (ints_any a n c zs w HR.out hr).mono ?_
  rintro e w1 ⟨a1, c1, rfl, hR1, hB1⟩
  have HB1 := hide hB1
  have HR1 := hide hR1
  clear hR1 hB1
  go_wp2_with fail
  refine (Value_any a1 n c1 zs w1 HR1.out).mono ?_
  rintro e w2 ⟨rfl, hB2⟩
  have HB2 := hide (HB1.out.trans (hB2.mono HB1.out.size))
  clear hB2 HR1 HB1
  go_wp2_with fail
  refine (ints_any a n c zs w2 (HR.out.mono HB2.out) hr).mono ?_
  rintro e w3 ⟨a3, c3, rfl, hR3, hB3⟩
  have HB3 := hide (HB2.out.trans (hB3.mono HB2.out.size))
  have HR3 := hide hR3
  clear hR3 hB3 HB2
  go_wp2_with fail
  refine (Best_any a3 n c3 zs w3 HR3.out).mono ?_
  rintro e w4 ⟨a4, m4, c4, rfl, hR4, hB4⟩
  have HB4 := hide (HB3.out.trans (hB4.mono HB3.out.size))
  have HR4 := hide hR4
  clear hR4 hB4 HB3 HR3
  go_wp2_with fail
  refine (Class_any v h1 h2 w4).mono ?_
  rintro e w5 ⟨rfl, hw⟩
  subst w5
  rw [HCV.out, HCE.out]
  by_cases h5 : n < 5
  · have e1 : Hid (handE zs = 11) := by show _ = _; rw [handE, if_pos (by rw [hlen.out]; omega)]
    have e2 : Hid (valueV zs = 0) := by show _ = _; rw [valueV, if_neg (by rw [e1.out]; omega)]
    have e3 : m4 = 0 := by have := HR4.out.len; rw [bestL, if_neg (by rw [e1.out]; omega)] at this; simpa using this.symm
    subst e3
    rw [e1.out, e2.out]
    have hd5 : decide ((5 : Int) ≤ (n : Int)) = false := by simp; omega
    go_wp2_with fail
    go_ret
    exact ⟨rfl, HB4.out⟩
  · by_cases h7 : 7 < n
    · have e1 : Hid (handE zs = 11) := by show _ = _; rw [handE, if_pos (by rw [hlen.out]; omega)]
      have e2 : Hid (valueV zs = 0) := by show _ = _; rw [valueV, if_neg (by rw [e1.out]; omega)]
      have e3 : m4 = 0 := by have := HR4.out.len; rw [bestL, if_neg (by rw [e1.out]; omega)] at this; simpa using this.symm
      subst e3
      rw [e1.out, e2.out]
      have hd5 : decide ((5 : Int) ≤ (n : Int)) = true := by simp; omega
      go_wp2_with fail
      go_ret
      exact ⟨rfl, HB4.out⟩
    · have e1 : Hid (handE zs = mayE zs) := by show _ = _; rw [handE, if_neg (by rw [hlen.out]; omega)]
      have hd5 : decide ((5 : Int) ≤ (n : Int)) = true := by simp; omega
      by_cases hm : mayE zs = 0
      · have e0 : handE zs = 0 := e1.out.trans hm
        have e2 : Hid (valueV zs = (bestZ zs).1) := by show _ = _; rw [valueV, if_pos e0]
        have e3 : Hid (bestL zs = toI (bestZ zs).2) := by show _ = _; rw [bestL, if_pos e0]
        obtain ⟨l5, l7, hin, hnd⟩ := handE_zero e0
        have hbz := bestG_z zs l5 l7
        rw [hlen.out] at hbz
        have BF : Hid (∀ w6, Below w.heap.size w w6 → Calls Try.prog 13 #[.slice a n c] w6 fun e w' => ∃ ad m cc, e = .returned (.tuple #[.int .i64 (bestZ zs).1, .slice ad m cc]) ∧ Rd w' ad m cc (toI (bestZ zs).2) ∧ Below w6.heap.size w6 w') := by
          intro w6 hb6
          have := BestFive_any a n c (natL zs) (by omega) (by omega) (natL_lt hin) (natL_nodup hnd hin) w6 (by rw [toI_natL hin]; exact HR.out.mono hb6)
          rw [hbz] at this
          exact this
        have HM := hide hm
        have E0 := hide e0
        rw [e0, e2.out]
        rw [e3.out] at HR4
        obtain ⟨bv, hbv⟩ : ∃ bv, (bestZ zs).1 = bv := ⟨_, rfl⟩
        rw [hbv] at BF ⊢
        clear hm e0 l5 l7 hin hnd hbz hbv
        go_wp2_with fail
        refine (CardsMay_any a n c zs w4 (HR.out.mono HB4.out)).mono ?_
        rintro e w5 ⟨rfl, q, hw⟩
        subst w5
        rw [HM.out]
        go_wp2_with fail
        refine (BF.out _ (HB4.out.trans (drewN_below _ _ _))).mono ?_
        rintro e w6 ⟨a6, m6, c6, rfl, hR6, hB6⟩
        have HB6 := hide ((HB4.out.trans (drewN_below _ w4 q)).trans (hB6.mono HB4.out.size))
        have HR6 := hide hR6
        have HR46 := hide (HR4.out.mono ((drewN_below _ w4 q).trans (hB6.mono (Nat.le_refl _))))
        clear hR6 hB6
        go_wp2_with fail
        refine (sameInts_any a4 a6 m4 c4 m6 c6 _ _ w6 HR46.out HR6.out).mono ?_
        rintro e w7 ⟨rfl, q', hw⟩
        subst w7
        have hdd : decide (toI (bestZ zs).2 = toI (bestZ zs).2) = true := by simp
        rw [hdd]
        go_wp2_with fail
        go_ret
        exact ⟨rfl, HB6.out.trans (drewN_below _ _ _)⟩
      · have e2 : Hid (valueV zs = 0) := by show _ = _; rw [valueV, if_neg (by rw [e1.out]; exact hm)]
        have e3 : m4 = 0 := by have := HR4.out.len; rw [bestL, if_neg (by rw [e1.out]; exact hm)] at this; simpa using this.symm
        subst e3
        rw [e1.out, e2.out]
        obtain ⟨x, hx⟩ : ∃ x, mayE zs = x := ⟨_, rfl⟩
        have CM := hide (CardsMay_any a n c zs w4 (HR.out.mono HB4.out))
        rw [hx] at hm CM ⊢
        have hxn : (x != 0) = true := by simpa using hm
        clear hx
        go_wp2_with fail
        refine CM.out.mono ?_
        rintro e w5 ⟨rfl, q, hw⟩
        subst w5
        go_wp2_with fail
        go_ret
        exact ⟨rfl, HB4.out.trans (drewN_below _ _ _)⟩

set_option maxRecDepth 100000 in
set_option maxHeartbeats 8000000 in
theorem values_ok (a : Option Addr) (n c : Nat) (zs : List Int) (k : Nat) (h1 : -9223372036854775808 ≤ (k : Int)) (h2 : (k : Int) ≤ 9223372036854775807) (h9 : k < 3341637) (w : World) (h : Rd w a n c zs) (hr : n * 8 ≤ 140737488351232) :
    Calls Try.prog 3 #[.slice a n c, .int .i64 (k : Int)] w fun e w' => e = .returned (.bool true) ∧ Below w.heap.size w w' := by
  have HR := hide h
  have hcm := h.max
  have hcn := h.cap
  unfold maxLen at hcm
  have hlen := hide h.len
  clear h
  have hq : (k : Int) / 371293 = ((k / 371293 : Nat) : Int) := by omega
  have HCV : Hid (classV (k : Int) = ((k / 371293 : Nat) : Int)) := by show _ = _; rw [classV, if_neg (by omega), hq]
  have HCE : Hid (classE (k : Int) = 0) := by show _ = _; rw [classE, if_neg (by omega)]
  obtain ⟨qq, hqq⟩ : ∃ q, k / 371293 = q := ⟨_, rfl⟩
  rw [hqq] at hq HCV
  have hq8 : qq ≤ 8 := by omega
  clear hqq
  have hd9 : decide ((3341637 : Int) ≤ (k : Int)) = false := by simp; omega
  go_enter Try.func3, Try.ntmps3
  go_wp2_with fail
  refine (ints_any a n c zs w HR.out hr).mono ?_
  rintro e w1 ⟨a1, c1, rfl, hR1, hB1⟩
  have HB1 := hide hB1
  have HR1 := hide hR1
  clear hR1 hB1
  go_wp2_with fail
  refine (Value_any a1 n c1 zs w1 HR1.out).mono ?_
  rintro e w2 ⟨rfl, hB2⟩
  have HB2 := hide (HB1.out.trans (hB2.mono HB1.out.size))
  clear hB2 HR1 HB1
  go_wp2_with fail
  refine (ints_any a n c zs w2 (HR.out.mono HB2.out) hr).mono ?_
  rintro e w3 ⟨a3, c3, rfl, hR3, hB3⟩
  have HB3 := hide (HB2.out.trans (hB3.mono HB2.out.size))
  have HR3 := hide hR3
  clear hR3 hB3 HB2
  go_wp2_with fail
  refine (Best_any a3 n c3 zs w3 HR3.out).mono ?_
  rintro e w4 ⟨a4, m4, c4, rfl, hR4, hB4⟩
  have HB4 := hide (HB3.out.trans (hB4.mono HB3.out.size))
  have HR4 := hide hR4
  clear hR4 hB4 HB3 HR3
  go_wp2_with fail
  refine (Class_any (k : Int) h1 h2 w4).mono ?_
  rintro e w5 ⟨rfl, hw⟩
  subst w5
  rw [HCV.out, HCE.out]
  by_cases h5 : n < 5
  · have e1 : Hid (handE zs = 11) := by show _ = _; rw [handE, if_pos (by rw [hlen.out]; omega)]
    have e2 : Hid (valueV zs = 0) := by show _ = _; rw [valueV, if_neg (by rw [e1.out]; omega)]
    have e3 : m4 = 0 := by have := HR4.out.len; rw [bestL, if_neg (by rw [e1.out]; omega)] at this; simpa using this.symm
    subst e3
    rw [e1.out, e2.out]
    have hd5 : decide ((5 : Int) ≤ (n : Int)) = false := by simp; omega
    go_wp2_with fail
    go_ret
    exact ⟨rfl, HB4.out⟩
  · by_cases h7 : 7 < n
    · have e1 : Hid (handE zs = 11) := by show _ = _; rw [handE, if_pos (by rw [hlen.out]; omega)]
      have e2 : Hid (valueV zs = 0) := by show _ = _; rw [valueV, if_neg (by rw [e1.out]; omega)]
      have e3 : m4 = 0 := by have := HR4.out.len; rw [bestL, if_neg (by rw [e1.out]; omega)] at this; simpa using this.symm
      subst e3
      rw [e1.out, e2.out]
      have hd5 : decide ((5 : Int) ≤ (n : Int)) = true := by simp; omega
      go_wp2_with fail
      go_ret
      exact ⟨rfl, HB4.out⟩
    · have e1 : Hid (handE zs = mayE zs) := by show _ = _; rw [handE, if_neg (by rw [hlen.out]; omega)]
      have hd5 : decide ((5 : Int) ≤ (n : Int)) = true := by simp; omega
      by_cases hm : mayE zs = 0
      · have e0 : handE zs = 0 := e1.out.trans hm
        have e2 : Hid (valueV zs = (bestZ zs).1) := by show _ = _; rw [valueV, if_pos e0]
        have e3 : Hid (bestL zs = toI (bestZ zs).2) := by show _ = _; rw [bestL, if_pos e0]
        obtain ⟨l5, l7, hin, hnd⟩ := handE_zero e0
        have hbz := bestG_z zs l5 l7
        rw [hlen.out] at hbz
        have BF : Hid (∀ w6, Below w.heap.size w w6 → Calls Try.prog 13 #[.slice a n c] w6 fun e w' => ∃ ad m cc, e = .returned (.tuple #[.int .i64 (bestZ zs).1, .slice ad m cc]) ∧ Rd w' ad m cc (toI (bestZ zs).2) ∧ Below w6.heap.size w6 w') := by
          intro w6 hb6
          have := BestFive_any a n c (natL zs) (by omega) (by omega) (natL_lt hin) (natL_nodup hnd hin) w6 (by rw [toI_natL hin]; exact HR.out.mono hb6)
          rw [hbz] at this
          exact this
        have HM := hide hm
        have E0 := hide e0
        rw [e0, e2.out]
        rw [e3.out] at HR4
        obtain ⟨bv, hbv⟩ : ∃ bv, (bestZ zs).1 = bv := ⟨_, rfl⟩
        rw [hbv] at BF ⊢
        clear hm e0 l5 l7 hin hnd hbz hbv
        go_wp2_with fail
        refine (CardsMay_any a n c zs w4 (HR.out.mono HB4.out)).mono ?_
        rintro e w5 ⟨rfl, q, hw⟩
        subst w5
        rw [HM.out]
        go_wp2_with fail
        refine (BF.out _ (HB4.out.trans (drewN_below _ _ _))).mono ?_
        rintro e w6 ⟨a6, m6, c6, rfl, hR6, hB6⟩
        have HB6 := hide ((HB4.out.trans (drewN_below _ w4 q)).trans (hB6.mono HB4.out.size))
        have HR6 := hide hR6
        have HR46 := hide (HR4.out.mono ((drewN_below _ w4 q).trans (hB6.mono (Nat.le_refl _))))
        clear hR6 hB6
        go_wp2_with fail
        refine (sameInts_any a4 a6 m4 c4 m6 c6 _ _ w6 HR46.out HR6.out).mono ?_
        rintro e w7 ⟨rfl, q', hw⟩
        subst w7
        have hdd : decide (toI (bestZ zs).2 = toI (bestZ zs).2) = true := by simp
        rw [hdd]
        go_wp2_with fail
        go_ret
        exact ⟨rfl, HB6.out.trans (drewN_below _ _ _)⟩
      · have e2 : Hid (valueV zs = 0) := by show _ = _; rw [valueV, if_neg (by rw [e1.out]; exact hm)]
        have e3 : m4 = 0 := by have := HR4.out.len; rw [bestL, if_neg (by rw [e1.out]; exact hm)] at this; simpa using this.symm
        subst e3
        rw [e1.out, e2.out]
        obtain ⟨x, hx⟩ : ∃ x, mayE zs = x := ⟨_, rfl⟩
        have CM := hide (CardsMay_any a n c zs w4 (HR.out.mono HB4.out))
        rw [hx] at hm CM ⊢
        have hxn : (x != 0) = true := by simpa using hm
        clear hx
        go_wp2_with fail
        refine CM.out.mono ?_
        rintro e w5 ⟨rfl, q, hw⟩
        subst w5
        go_wp2_with fail
        go_ret
        exact ⟨rfl, HB4.out.trans (drewN_below _ _ _)⟩

theorem values_any (a : Option Addr) (n c : Nat) (zs : List Int) (v : Int) (w : World) (h : Rd w a n c zs) (hr : n * 8 ≤ 140737488351232) (h1 : -9223372036854775808 ≤ v) (h2 : v ≤ 9223372036854775807) :
    Calls Try.prog 3 #[.slice a n c, .int .i64 v] w fun e w' => e = .returned (.bool true) ∧ Below w.heap.size w w' := by
  by_cases h0 : v < 0
  · exact values_neg a n c zs v h1 h2 h0 w h hr
  · by_cases h9 : 3341637 ≤ v
    · exact values_big a n c zs v h1 h2 (by omega) h9 w h hr
    · obtain ⟨k, rfl⟩ : ∃ k : Nat, v = k := ⟨v.toNat, by omega⟩
      exact values_ok a n c zs k h1 h2 (by omega) w h hr

end Go.Proofs.Ytdhacmcdbpojlaa
