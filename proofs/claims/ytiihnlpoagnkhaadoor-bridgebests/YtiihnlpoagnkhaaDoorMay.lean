/-
  The reference's way to tell faults of cards. No conditions beyond those that each theorem bears.
-/
import Derived.Test.YtiihnlpoagnkhaaDoorFault
namespace Go.Proofs.YtiihnlpoagnkhaaDoor
open Go.RowKit Go.Shelf
set_option maxHeartbeats 400000 in
theorem within_any (x a b : Int) (w : World) : Calls Tryd.prog 17 #[.int .i64 x, .int .i64 a, .int .i64 b] w fun e w' => e = .returned (.bool (decide (a ≤ x ∧ x ≤ b))) ∧ w' = w := by
  generalize hB : decide (a ≤ x ∧ x ≤ b) = B
  by_cases h0 : a ≤ x
  · by_cases h5 : x ≤ b
    · have d0 : decide (a ≤ x) = true := by simp; omega
      obtain rfl : B = true := by rw [← hB]; simp; omega
      clear hB
      go_enter Tryd.func17, Tryd.ntmps17
      go_wp2
      go_ret
      exact ⟨rfl, rfl⟩
    · have d0 : decide (a ≤ x) = true := by simp; omega
      obtain rfl : B = false := by rw [← hB]; simp; omega
      clear hB
      go_enter Tryd.func17, Tryd.ntmps17
      go_wp2
      go_ret
      exact ⟨rfl, rfl⟩
  · have d0 : decide (a ≤ x) = false := by simp; omega
    obtain rfl : B = false := by rw [← hB]; simp; omega
    clear hB
    go_enter Tryd.func17, Tryd.ntmps17
    go_wp2
    go_ret
    exact ⟨rfl, rfl⟩

theorem drewN_below (B : Nat) (w : World) (q : Nat) : Below B w (w.drewN q) := by
  induction q with
  | zero => exact Below.refl _ _
  | succ q ih => exact ⟨rfl, rfl, rfl, Nat.le_refl _, fun _ _ => rfl⟩

def natL (x : List Int) : List Nat := x.map Int.toNat
theorem toI_natL {zs : List Int} (h : inRange zs = true) : toI (natL zs) = zs := by
  simp only [inRange, List.all_eq_true, decide_eq_true_eq] at h
  simp only [toI, natL, List.map_map]
  conv => rhs; rw [← List.map_id zs]
  apply List.map_congr_left
  intro z hz
  have := h z hz
  simp; omega

theorem natL_lt {zs : List Int} (h : inRange zs = true) (i : Nat) : (natL zs).getD i 0 < 52 := by
  by_cases hi : i < zs.length
  · have := inRange_take h i hi
    simp only [List.getD, hi, List.getElem?_eq_getElem, Option.getD_some] at this
    simp only [natL, List.getD, List.getElem?_map, hi, List.getElem?_eq_getElem, Option.map_some, Option.getD_some]
    omega
  · simp [natL, List.getD, hi]

theorem mayE_zero {zs : List Int} (h : mayE zs = 0) : inRange zs = true ∧ zs.Nodup := by
  unfold mayE at h
  split at h
  · rename_i h1
    split at h
    · rename_i h2; exact ⟨h1, h2⟩
    · simp at h
  · simp at h
theorem take_snocI (zs : List Int) (k : Nat) (h : k < zs.length) : zs.take (k + 1) = zs.take k ++ [zs.getD k 0] := by
  rw [List.take_succ_eq_append_getElem h]
  simp [List.getD, h]

set_option maxHeartbeats 400000 in
theorem at_any (a : Option Addr) (n c : Nat) (zs : List Int) (x : Int) (w : World) (h : Rd w a n c zs) :
    Calls Tryd.prog 18 #[.slice a n c, .int .i64 x] w fun e w' => ∃ r : Int, e = .returned (.int .i64 r) ∧ (0 ≤ r ↔ x ∈ zs) ∧ w' = w := by
  have hcm := h.max
  have hcn := h.cap
  unfold maxLen at hcm
  have HH := hide h
  clear h
  go_enter Tryd.func18, Tryd.ntmps18
  go_wp2
  go_loop [5] (fun i => ∃ k : Nat, k ≤ n ∧ i = .int .i64 k ∧ Hid (x ∉ zs.take k)) (fun i => n - (intOf i).toNat)
  case atStart => exact ⟨0, by omega, rfl, by simp [Hid]⟩
  case round =>
    obtain ⟨k, hk, rfl, HL⟩ := hrel
    by_cases hlt : k < n
    · obtain ⟨b, off, ha, hc⟩ := HH.out.cells (by omega)
      subst ha
      have r1 := hc k hlt
      clear hc
      have hzl : k < zs.length := by rw [HH.out.len]; exact hlt
      by_cases hv : zs.getD k 0 = x
      · have hb : (zs[k]?.getD 0 == x) = true := by simpa using hv
        have HM : Hid (x ∈ zs) := hide (by rw [← hv]; simp [List.getD, hzl])
        clear hv hzl
        go_wp2
        go_ret
        exact ⟨_, rfl, by simp [HM.out], rfl⟩
      · have hb : (zs[k]?.getD 0 == x) = false := by simpa using hv
        have HN : Hid (x ∉ zs.take (k + 1)) := hide (by rw [take_snocI zs k hzl]; simp only [List.mem_append, List.mem_singleton, not_or]; exact ⟨HL.out, fun e => hv e.symm⟩)
        clear hv hzl
        go_wp2
        go_round
        case rel => exact ⟨k + 1, by omega, by go_num, HN⟩
        case measure => simp [intOf]; omega
    · obtain rfl : k = n := by omega
      have hlt' : ¬ (k : Int) < (k : Int) := by omega
      have hx : x ∉ zs := by
        have := HL.out
        rwa [List.take_of_length_le (by rw [HH.out.len]; exact Nat.le_refl _)] at this
      have HX := hide hx
      clear hx
      go_wp2
      go_ret
      exact ⟨-1, rfl, by simp [HX.out], rfl⟩

theorem inRange_snoc (zs : List Int) (z : Int) : inRange (zs ++ [z]) = (inRange zs && decide (0 ≤ z ∧ z < 52)) := by
  simp [inRange, List.all_append]

set_option maxRecDepth 100000 in
set_option maxHeartbeats 1600000 in
theorem CardsMay_any (a : Option Addr) (n c : Nat) (zs : List Int) (w : World) (h : Rd w a n c zs) :
    Calls Tryd.prog 7 #[.slice a n c] w fun e w' => e = .returned (.int .i64 (mayE zs)) ∧ ∃ q, w' = w.drewN q := by
  have hcm := h.max
  have hcn := h.cap
  unfold maxLen at hcm
  have HH := hide h
  clear h
  go_enter Tryd.func7, Tryd.ntmps7
  go_wp2
  go_loop [3] (fun i => ∃ k : Nat, k ≤ n ∧ i = .int .i64 k ∧ Hid (inRange (zs.take k) = true)) (fun i => n - (intOf i).toNat)
  case atStart => exact ⟨0, by omega, rfl, rfl⟩
  case round =>
    obtain ⟨k, hk, rfl, HL⟩ := hrel
    by_cases hlt : k < n
    · obtain ⟨b, off, ha, hc⟩ := HH.out.cells (by omega)
      subst ha
      have r1 := hc k hlt
      clear hc
      have hzl : k < zs.length := by rw [HH.out.len]; exact hlt
      have et := hide (take_snocI zs k hzl)
      obtain ⟨z, hz⟩ : ∃ z, zs.getD k 0 = z := ⟨_, rfl⟩
      rw [hz] at r1 et
      by_cases hin : 0 ≤ z ∧ z ≤ 51
      · have hd : decide (0 ≤ z ∧ z ≤ 51) = true := by simp; omega
        have HN : Hid (inRange (zs.take (k + 1)) = true) := by
          show _ = _
          rw [et.out, inRange_snoc, HL.out]; simp; omega
        clear hz hzl
        go_wp2_with fail
        refine (within_any z 0 51 _).mono ?_
        rintro e w1 ⟨rfl, hw⟩
        subst w1
        rw [hd]
        go_wp2
        go_round
        case rel => exact ⟨k + 1, by omega, by go_num, HN⟩
        case measure => simp [intOf]; omega
      · have hd : decide (0 ≤ z ∧ z ≤ 51) = false := by simp; omega
        have HM : Hid (mayE zs = 3) := by
          show _ = _
          rw [mayE, if_neg]
          intro hi
          have := inRange_take hi k hzl
          rw [hz] at this
          omega
        clear hz hzl
        go_wp2_with fail
        refine (within_any z 0 51 _).mono ?_
        rintro e w1 ⟨rfl, hw⟩
        subst w1
        rw [hd]
        go_wp2
        go_ret
        exact ⟨by rw [HM.out]; rfl, 0, rfl⟩
    · obtain rfl : k = n := by omega
      have hlt' : ¬ (k : Int) < (k : Int) := by omega
      have hir : inRange zs = true := by
        have := HL.out
        rwa [List.take_of_length_le (by rw [HH.out.len]; exact Nat.le_refl _)] at this
      have HIR := hide hir
      clear hir HL
      go_wp2
      go_loopw [4] (fun i wr => ∃ j q : Nat, j ≤ k ∧ i = .int .i64 j ∧ wr = w.drewN q ∧ Hid ((zs.take j).Nodup)) (fun i _ => k - (intOf i).toNat)
      case atStart => exact ⟨0, 0, by omega, rfl, rfl, by simp [Hid]⟩
      case round =>
        obtain ⟨j, q, hj, rfl, rfl, HN⟩ := hrel
        by_cases hlj : j < k
        · obtain ⟨b, off, ha, hc⟩ := HH.out.cells (by omega)
          subst ha
          have r1 := hc j hlj
          clear hc
          have hzl : j < zs.length := by rw [HH.out.len]; exact hlj
          have et := hide (take_snocI zs j hzl)
          obtain ⟨z, hz⟩ : ∃ z, zs.getD j 0 = z := ⟨_, rfl⟩
          rw [hz] at r1 et
          have hlj' : (j : Int) < (k : Int) := by omega
          have RU := hide (HH.out.upto (k := j) (by omega))
          clear hz
          by_cases hm : z ∈ zs.take j
          · have HM : Hid (mayE zs = 6) := by
              show _ = _
              rw [mayE, if_pos HIR.out, if_neg]
              intro hnd
              have hnd' : (zs.take (j + 1)).Nodup := List.Nodup.sublist (List.take_sublist _ _) hnd
              rw [et.out, List.nodup_append] at hnd'
              exact hnd'.2.2 z hm z (by simp) rfl
            have AT : Hid (∀ w1, Rd w1 (some ⟨b, off, none⟩) j c (zs.take j) → Calls Tryd.prog 18 #[.slice (some ⟨b, off, none⟩) j c, .int .i64 z] w1 fun e w' => ∃ r : Int, (e = .returned (.int .i64 r) ∧ 0 ≤ r) ∧ w' = w1) :=
              fun w1 h1 => (at_any _ _ _ _ z w1 h1).mono (fun e w' ⟨r, h2, h3, h4⟩ => ⟨r, ⟨h2, h3.2 hm⟩, h4⟩)
            clear hm
            go_wp2
            go_region_with (go_at_call 18; refine (AT.out _ (RU.out.mono (by first | exact drewN_below _ w _ | exact (drewN_below _ w _).drew))).mono ?_; rintro e w2 ⟨r, ⟨rfl, hr⟩, hw⟩; subst w2)
            all_goals go_wp2
            all_goals go_ret
            all_goals exact ⟨by rw [HM.out]; rfl, by first | exact ⟨_, rfl⟩ | exact ⟨q + 1, rfl⟩⟩
          · have HN2 : Hid ((zs.take (j + 1)).Nodup) := by
              show List.Nodup _
              rw [et.out, List.nodup_append]
              exact ⟨HN.out, by simp, fun x hx y hy e => by simp at hy; subst hy; subst e; exact hm hx⟩
            have AT : Hid (∀ w1, Rd w1 (some ⟨b, off, none⟩) j c (zs.take j) → Calls Tryd.prog 18 #[.slice (some ⟨b, off, none⟩) j c, .int .i64 z] w1 fun e w' => ∃ r : Int, (e = .returned (.int .i64 r) ∧ r < 0) ∧ w' = w1) :=
              fun w1 h1 => (at_any _ _ _ _ z w1 h1).mono (fun e w' ⟨r, h2, h3, h4⟩ => ⟨r, ⟨h2, Int.not_le.1 (fun hh => hm (h3.1 hh))⟩, h4⟩)
            clear hm
            go_wp2
            go_region_with (go_at_call 18; refine (AT.out _ (RU.out.mono (by first | exact drewN_below _ w _ | exact (drewN_below _ w _).drew))).mono ?_; rintro e w2 ⟨r, ⟨rfl, hr⟩, hw⟩; subst w2)
            all_goals go_wp2
            all_goals go_roundw
            all_goals first
              | (show (_ : Nat) < _; simp [intOf]; omega)
              | exact ⟨j + 1, q + 1, by omega, by go_num, rfl, HN2⟩
        · obtain rfl : j = k := by omega
          have hlj' : ¬ (j : Int) < (j : Int) := by omega
          have hnd : zs.Nodup := by
            have := HN.out
            rwa [List.take_of_length_le (by rw [HH.out.len]; exact Nat.le_refl _)] at this
          have HM : Hid (mayE zs = 0) := by
            show _ = _
            rw [mayE, if_pos HIR.out, if_pos hnd]
          clear hnd
          go_wp2
          go_ret
          exact ⟨by rw [HM.out]; rfl, _, rfl⟩

end Go.Proofs.YtiihnlpoagnkhaaDoor
