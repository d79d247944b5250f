/-
  What poker.Best and poker.Class answer; the reference's way to tell faults of cards. No conditions beyond those that each theorem bears.
-/
import Derived.Test.YtdhacmcdbpojlaaFaces
namespace Go.Proofs.Ytdhacmcdbpojlaa
open Go.RowKit Go.Shelf

set_option maxHeartbeats 800000 in
theorem Best_any (a : Option Addr) (n c : Nat) (zs : List Int) (w : World) (h : Rd w a n c zs) :
    Calls Try.prog 10 #[.slice a n c] w fun e w' => ∃ a' m c', e = .returned (.tuple #[.slice a' m c', .int .i64 (handE zs)]) ∧ Rd w' a' m c' (bestL zs) ∧ Below w.heap.size w w' := by
  have H := hide (hand_any a n c zs w h)
  have HH := hide h
  by_cases h0 : handE zs = 0
  · have hv : Hid (bestL zs = toI (bestZ zs).2) := by show _ = _; rw [bestL, if_pos h0]
    obtain ⟨l5, l7, hr, _⟩ := handE_zero h0
    rw [h.len] at l5 l7
    have HB := hide (fun w1 (hb : Below w.heap.size w w1) => best_z a n c zs w1 (h.mono hb) l5 l7 hr)
    rw [h0] at H ⊢
    clear h hr l5 l7
    go_enter Try.func10, Try.ntmps10
    go_wp2_with fail
    refine H.out.mono ?_
    rintro e w1 ⟨rfl, hB1⟩
    have HB1 := hide hB1
    clear hB1
    go_wp2_with fail
    refine (HB.out w1 HB1.out).mono ?_
    rintro e w2 ⟨v, x0, x1, x2, x3, x4, hbz, rfl, hB2⟩
    unfold arrN
    have HZ := hide hbz
    have HB2 := hide (HB1.out.trans (hB2.mono HB1.out.size))
    clear hbz hB2
    go_wp2
    go_ret2
    refine ⟨_, _, _, rfl, ?_, HB2.out.alloc HB2.out.size _⟩
    rw [hv.out, HZ.out]
    have KB := Blk.new w2 48 [x0, x1, x2, x3, x4] _ rfl
    refine ⟨rfl, by omega, by unfold maxLen; omega, (fun h => by simp at h), fun _ => ⟨w2.heap.size, 0, rfl, fun i hi => ?_⟩⟩
    rw [Nat.zero_add, toI_getD]
    exact KB.cell (by simpa using hi)
  · have hv : Hid (bestL zs = []) := by show _ = _; rw [bestL, if_neg h0]
    obtain ⟨x, hx⟩ : ∃ x, handE zs = x := ⟨_, rfl⟩
    rw [hx] at H h0 ⊢
    have HX := hide hx
    clear hx h
    go_enter Try.func10, Try.ntmps10
    go_wp2_with fail
    refine H.out.mono ?_
    rintro e w1 ⟨rfl, hB1⟩
    go_wp2
    go_ret2
    exact ⟨_, _, _, rfl, by rw [hv.out]; exact Rd.of_nil _, hB1⟩

def classV (v : Int) : Int := if v < 0 ∨ 3341637 ≤ v then 0 else v / 371293
def classE (v : Int) : Int := if v < 0 ∨ 3341637 ≤ v then 3 else 0

set_option maxHeartbeats 400000 in
theorem Class_any (v : Int) (h1 : -9223372036854775808 ≤ v) (h2 : v ≤ 9223372036854775807) (w : World) :
    Calls Try.prog 11 #[.int .i64 v] w fun e w' => e = .returned (.tuple #[.int .i64 (classV v), .int .i64 (classE v)]) ∧ w' = w := by
  by_cases h0 : v < 0
  · have e1 : Hid (classV v = 0) := by show _ = _; rw [classV, if_pos (.inl h0)]
    have e2 : Hid (classE v = 3) := by show _ = _; rw [classE, if_pos (.inl h0)]
    go_enter Try.func11, Try.ntmps11
    go_wp2
    go_ret2
    exact ⟨by rw [e1.out, e2.out]; rfl, rfl⟩
  · obtain ⟨n, rfl⟩ : ∃ n : Nat, v = n := ⟨v.toNat, by omega⟩
    have hq : (n : Int) / 371293 = ((n / 371293 : Nat) : Int) := by omega
    by_cases h9 : 3341637 ≤ (n : Int)
    · have e1 : Hid (classV (n : Int) = 0) := by show _ = _; rw [classV, if_pos (.inr h9)]
      have e2 : Hid (classE (n : Int) = 3) := by show _ = _; rw [classE, if_pos (.inr h9)]
      obtain ⟨q, hqq⟩ : ∃ q, n / 371293 = q := ⟨_, rfl⟩
      rw [hqq] at hq
      have hq8 : 8 < q := by omega
      clear hqq
      go_enter Try.func11, Try.ntmps11
      go_wp2
      go_ret2
      exact ⟨by rw [e1.out, e2.out]; rfl, rfl⟩
    · have e1 : Hid (classV (n : Int) = ((n / 371293 : Nat) : Int)) := by show _ = _; rw [classV, if_neg (by omega), hq]
      have e2 : Hid (classE (n : Int) = 0) := by show _ = _; rw [classE, if_neg (by omega)]
      obtain ⟨q, hqq⟩ : ∃ q, n / 371293 = q := ⟨_, rfl⟩
      rw [hqq] at hq e1
      have hq8 : q ≤ 8 := by omega
      clear hqq
      go_enter Try.func11, Try.ntmps11
      go_wp2
      go_ret2
      exact ⟨by rw [e1.out, e2.out]; rfl, rfl⟩

set_option maxHeartbeats 400000 in
theorem within_any (n lo hi : Int) (w : World) :
    Calls Try.prog 24 #[.int .i64 n, .int .i64 lo, .int .i64 hi] w fun e w' => e = .returned (.bool (decide (lo ≤ n ∧ n ≤ hi))) ∧ w' = w := by
  by_cases h1 : lo ≤ n
  · by_cases h2 : n ≤ hi
    all_goals
      go_enter Try.func24, Try.ntmps24
      go_wp2
      go_ret
      exact ⟨ret_bool (by simp; omega), rfl⟩
  · go_enter Try.func24, Try.ntmps24
    go_wp2
    go_ret
    exact ⟨ret_bool (by simp; omega), rfl⟩

theorem take_snocI (zs : List Int) (k : Nat) (h : k < zs.length) : zs.take (k + 1) = zs.take k ++ [zs.getD k 0] := by
  rw [List.take_succ_eq_append_getElem h]
  simp [List.getD, h]

set_option maxHeartbeats 400000 in
theorem at_any (a : Option Addr) (n c : Nat) (zs : List Int) (x : Int) (w : World) (h : Rd w a n c zs) :
    Calls Try.prog 25 #[.slice a n c, .int .i64 x] w fun e w' => ∃ r : Int, e = .returned (.int .i64 r) ∧ (0 ≤ r ↔ x ∈ zs) ∧ w' = w := by
  have hcm := h.max
  have hcn := h.cap
  unfold maxLen at hcm
  have HH := hide h
  clear h
  go_enter Try.func25, Try.ntmps25
  go_wp2
  go_loop [5] (fun i => ∃ k : Nat, k ≤ n ∧ i = .int .i64 k ∧ Hid (x ∉ zs.take k)) (fun i => n - (intOf i).toNat)
  case atStart => exact ⟨0, by omega, rfl, by simp [Hid]⟩
  case round =>
    obtain ⟨k, hk, rfl, HL⟩ := hrel
    by_cases hlt : k < n
    · obtain ⟨b, off, ha, hc⟩ := HH.out.cells (by omega)
      subst ha
      have r1 := hc k hlt
      clear hc
      have hzl : k < zs.length := by rw [HH.out.len]; exact hlt
      by_cases hv : zs.getD k 0 = x
      · have hb : (zs[k]?.getD 0 == x) = true := by simpa using hv
        have HM : Hid (x ∈ zs) := hide (by rw [← hv]; simp [List.getD, hzl])
        clear hv hzl
        go_wp2
        go_ret
        exact ⟨_, rfl, by simp [HM.out], rfl⟩
      · have hb : (zs[k]?.getD 0 == x) = false := by simpa using hv
        have HN : Hid (x ∉ zs.take (k + 1)) := hide (by rw [take_snocI zs k hzl]; simp only [List.mem_append, List.mem_singleton, not_or]; exact ⟨HL.out, fun e => hv e.symm⟩)
        clear hv hzl
        go_wp2
        go_round
        case rel => exact ⟨k + 1, by omega, by go_num, HN⟩
        case measure => simp [intOf]; omega
    · obtain rfl : k = n := by omega
      have hlt' : ¬ (k : Int) < (k : Int) := by omega
      have hx : x ∉ zs := by
        have := HL.out
        rwa [List.take_of_length_le (by rw [HH.out.len]; exact Nat.le_refl _)] at this
      have HX := hide hx
      clear hx
      go_wp2
      go_ret
      exact ⟨-1, rfl, by simp [HX.out], rfl⟩

theorem inRange_snoc (zs : List Int) (z : Int) : inRange (zs ++ [z]) = (inRange zs && decide (0 ≤ z ∧ z < 52)) := by
  simp [inRange, List.all_append]

theorem inRange_of_take {zs : List Int} {k : Nat} (hk : k < zs.length) (h : inRange zs = true) : 0 ≤ zs.getD k 0 ∧ zs.getD k 0 < 52 := inRange_take h k hk

set_option maxRecDepth 100000 in
set_option maxHeartbeats 1600000 in
theorem CardsMay_any (a : Option Addr) (n c : Nat) (zs : List Int) (w : World) (h : Rd w a n c zs) :
    Calls Try.prog 12 #[.slice a n c] w fun e w' => e = .returned (.int .i64 (mayE zs)) ∧ ∃ q, w' = w.drewN q := by
  have hcm := h.max
  have hcn := h.cap
  unfold maxLen at hcm
  have HH := hide h
  clear h
  go_enter Try.func12, Try.ntmps12
  go_wp2
  go_loop [3] (fun i => ∃ k : Nat, k ≤ n ∧ i = .int .i64 k ∧ Hid (inRange (zs.take k) = true)) (fun i => n - (intOf i).toNat)
  case atStart => exact ⟨0, by omega, rfl, rfl⟩
  case round =>
    obtain ⟨k, hk, rfl, HL⟩ := hrel
    by_cases hlt : k < n
    · obtain ⟨b, off, ha, hc⟩ := HH.out.cells (by omega)
      subst ha
      have r1 := hc k hlt
      clear hc
      have hzl : k < zs.length := by rw [HH.out.len]; exact hlt
      have et := hide (take_snocI zs k hzl)
      obtain ⟨z, hz⟩ : ∃ z, zs.getD k 0 = z := ⟨_, rfl⟩
      rw [hz] at r1 et
      by_cases hin : 0 ≤ z ∧ z ≤ 51
      · have hd : decide (0 ≤ z ∧ z ≤ 51) = true := by simp; omega
        have HN : Hid (inRange (zs.take (k + 1)) = true) := by
          show _ = _
          rw [et.out, inRange_snoc, HL.out]; simp; omega
        clear hz hzl
        go_wp2_with fail
        refine (within_any z 0 51 _).mono ?_
        rintro e w1 ⟨rfl, hw⟩
        subst w1
        rw [hd]
        go_wp2
        go_round
        case rel => exact ⟨k + 1, by omega, by go_num, HN⟩
        case measure => simp [intOf]; omega
      · have hd : decide (0 ≤ z ∧ z ≤ 51) = false := by simp; omega
        have HM : Hid (mayE zs = 3) := by
          show _ = _
          rw [mayE, if_neg]
          intro hi
          have := inRange_take hi k hzl
          rw [hz] at this
          omega
        clear hz hzl
        go_wp2_with fail
        refine (within_any z 0 51 _).mono ?_
        rintro e w1 ⟨rfl, hw⟩
        subst w1
        rw [hd]
        go_wp2
        go_ret
        exact ⟨by rw [HM.out]; rfl, 0, rfl⟩
    · obtain rfl : k = n := by omega
      have hlt' : ¬ (k : Int) < (k : Int) := by omega
      have hir : inRange zs = true := by
        have := HL.out
        rwa [List.take_of_length_le (by rw [HH.out.len]; exact Nat.le_refl _)] at this
      have HIR := hide hir
      clear hir HL
      go_wp2
      go_loopw [4] (fun i wr => ∃ j q : Nat, j ≤ k ∧ i = .int .i64 j ∧ wr = w.drewN q ∧ Hid ((zs.take j).Nodup)) (fun i _ => k - (intOf i).toNat)
      case atStart => exact ⟨0, 0, by omega, rfl, rfl, by simp [Hid]⟩
      case round =>
        obtain ⟨j, q, hj, rfl, rfl, HN⟩ := hrel
        by_cases hlj : j < k
        · obtain ⟨b, off, ha, hc⟩ := HH.out.cells (by omega)
          subst ha
          have r1 := hc j hlj
          clear hc
          have hzl : j < zs.length := by rw [HH.out.len]; exact hlj
          have et := hide (take_snocI zs j hzl)
          obtain ⟨z, hz⟩ : ∃ z, zs.getD j 0 = z := ⟨_, rfl⟩
          rw [hz] at r1 et
          have hlj' : (j : Int) < (k : Int) := by omega
          have RU := hide (HH.out.upto (k := j) (by omega))
          clear hz
          by_cases hm : z ∈ zs.take j
          · have HM : Hid (mayE zs = 6) := by
              show _ = _
              rw [mayE, if_pos HIR.out, if_neg]
              intro hnd
              have hnd' : (zs.take (j + 1)).Nodup := List.Nodup.sublist (List.take_sublist _ _) hnd
              rw [et.out, List.nodup_append] at hnd'
              exact hnd'.2.2 z hm z (by simp) rfl
            have AT : Hid (∀ w1, Rd w1 (some ⟨b, off, none⟩) j c (zs.take j) → Calls Try.prog 25 #[.slice (some ⟨b, off, none⟩) j c, .int .i64 z] w1 fun e w' => ∃ r : Int, (e = .returned (.int .i64 r) ∧ 0 ≤ r) ∧ w' = w1) :=
              fun w1 h1 => (at_any _ _ _ _ z w1 h1).mono (fun e w' ⟨r, h2, h3, h4⟩ => ⟨r, ⟨h2, h3.2 hm⟩, h4⟩)
            clear hm
            go_wp2
            go_region_with (go_at_call 25; refine (AT.out _ (RU.out.mono (by first | exact drewN_below _ w _ | exact (drewN_below _ w _).drew))).mono ?_; rintro e w2 ⟨r, ⟨rfl, hr⟩, hw⟩; subst w2)
            all_goals go_wp2
            all_goals go_ret
            all_goals exact ⟨by rw [HM.out]; rfl, by first | exact ⟨_, rfl⟩ | exact ⟨q + 1, rfl⟩⟩
          · have HN2 : Hid ((zs.take (j + 1)).Nodup) := by
              show List.Nodup _
              rw [et.out, List.nodup_append]
              exact ⟨HN.out, by simp, fun x hx y hy e => by simp at hy; subst hy; subst e; exact hm hx⟩
            have AT : Hid (∀ w1, Rd w1 (some ⟨b, off, none⟩) j c (zs.take j) → Calls Try.prog 25 #[.slice (some ⟨b, off, none⟩) j c, .int .i64 z] w1 fun e w' => ∃ r : Int, (e = .returned (.int .i64 r) ∧ r < 0) ∧ w' = w1) :=
              fun w1 h1 => (at_any _ _ _ _ z w1 h1).mono (fun e w' ⟨r, h2, h3, h4⟩ => ⟨r, ⟨h2, Int.not_le.1 (fun hh => hm (h3.1 hh))⟩, h4⟩)
            clear hm
            go_wp2
            go_region_with (go_at_call 25; refine (AT.out _ (RU.out.mono (by first | exact drewN_below _ w _ | exact (drewN_below _ w _).drew))).mono ?_; rintro e w2 ⟨r, ⟨rfl, hr⟩, hw⟩; subst w2)
            all_goals go_wp2
            all_goals go_roundw
            all_goals first
              | (show (_ : Nat) < _; simp [intOf]; omega)
              | exact ⟨j + 1, q + 1, by omega, by go_num, rfl, HN2⟩
        · obtain rfl : j = k := by omega
          have hlj' : ¬ (j : Int) < (j : Int) := by omega
          have hnd : zs.Nodup := by
            have := HN.out
            rwa [List.take_of_length_le (by rw [HH.out.len]; exact Nat.le_refl _)] at this
          have HM : Hid (mayE zs = 0) := by
            show _ = _
            rw [mayE, if_pos HIR.out, if_pos hnd]
          clear hnd
          go_wp2
          go_ret
          exact ⟨by rw [HM.out]; rfl, _, rfl⟩

end Go.Proofs.Ytdhacmcdbpojlaa
