/-
  What the reference's auctionOver and callMay answer. No conditions beyond those that each theorem bears.
-/
import Derived.Test.YtiihnlpoagnkhaaAuM
import Derived.Test.YtiihnlpoagnkhaaSc1
namespace Go.Proofs.Ytiihnlpoagnkhaa
open Go.RowKit

theorem getD_take (zs : List Int) (i j : Nat) (h : j < i) : (zs.take i).getD j 0 = zs.getD j 0 := by
  simp [List.getD, h]

set_option maxHeartbeats 1000000 in
theorem over_any (a : Option Addr) (n c : Nat) (zs ys : List Int) (hy : ∀ j, j < n → ys.getD j 0 = zs.getD j 0) (w : World) (h : Rd w a n c ys) :
    Calls Try.prog 34 #[.slice a n c] w fun e w' => e = .returned (.bool (decide (4 ≤ n ∧ ∀ j, j < n → n - 3 ≤ j → zs.getD j 0 = 0))) ∧ w' = w := by
  have hcm := h.max
  have hcn := h.cap
  unfold maxLen at hcm
  generalize hB : decide (4 ≤ n ∧ ∀ j, j < n → n - 3 ≤ j → zs.getD j 0 = 0) = B
  by_cases h4 : 4 ≤ n
  · have h4' : ¬ (n : Int) < 4 := by omega
    obtain ⟨b, off, rfl, hc⟩ := h.cells (by omega)
    have HC := hide hc
    have HY := hide hy
    have HBB := hide hB
    clear h hc hy hB
    go_enter Try.func34, Try.ntmps34
    go_wp2
    go_loop [4] (fun v => ∃ k : Nat, n - 3 ≤ k ∧ k ≤ n ∧ v = .int .i64 k ∧ Hid (∀ j, j < k → n - 3 ≤ j → zs.getD j 0 = 0)) (fun v => n - (intOf v).toNat)
    case atStart => exact ⟨n - 3, Nat.le_refl _, by omega, by go_num, fun j h1 h2 => by omega⟩
    case round =>
      obtain ⟨k, hk3, hk, rfl, hz⟩ := hrel
      by_cases hlt : k < n
      · have hlt' : (k : Int) < (n : Int) := by omega
        have r1 := HC.out k hlt
        rw [HY.out k hlt] at r1
        obtain ⟨z, hzz⟩ : ∃ z, zs.getD k 0 = z := ⟨_, rfl⟩
        rw [hzz] at r1
        have HZ := hide hzz
        clear hzz
        by_cases h0 : z = 0
        · subst h0
          have HN : Hid (∀ j, j < k + 1 → n - 3 ≤ j → zs.getD j 0 = 0) := hide (fun j h1 h2 => by
            by_cases e : j = k
            · subst e; exact HZ.out
            · exact hz.out j (by omega) h2)
          go_wp2
          go_round
          case rel => exact ⟨k + 1, by omega, by omega, by go_num, HN⟩
          case measure => simp [intOf]; omega
        · have b0 : (z != 0) = true := by simpa using h0
          have HF : Hid (B = false) := hide (by
            rw [← HBB.out, decide_eq_false_iff_not]
            rintro ⟨_, hh⟩
            exact h0 (HZ.out.symm.trans (hh k hlt hk3)))
          go_wp2
          go_ret
          exact ⟨by rw [HF.out]; rfl, rfl⟩
      · obtain rfl : k = n := by omega
        have hlt' : ¬ (k : Int) < (k : Int) := by omega
        have HF : Hid (B = true) := hide (by
          rw [← HBB.out, decide_eq_true_eq]
          exact ⟨h4, hz.out⟩)
        go_wp2
        go_ret
        exact ⟨by rw [HF.out]; rfl, rfl⟩
  · have h4' : (n : Int) < 4 := by omega
    obtain rfl : B = false := by rw [← hB, decide_eq_false_iff_not]; omega
    clear hB h hy
    go_enter Try.func34, Try.ntmps34
    go_wp2
    go_ret
    exact ⟨rfl, rfl⟩

set_option maxHeartbeats 2000000 in
theorem callMay_any (a : Option Addr) (n c : Nat) (zs ys : List Int) (hy : ∀ j, j < n → ys.getD j 0 = zs.getD j 0) (m : Nat) (hm : m ≤ n) (ht : ∀ j, m ≤ j → j < n → zs.getD j 0 = 0) (hnz : 0 < m → zs.getD (m - 1) 0 ≠ 0) (x : Int) (hx : 0 ≤ x) (w : World) (h : Rd w a n c ys) :
    Calls Try.prog 35 #[.slice a n c, .int .i64 x] w fun e w' => e = .returned (.bool (mayR zs n m x)) ∧ w' = w := by
  have hcm := h.max
  have hcn := h.cap
  unfold maxLen at hcm
  have HH := hide h
  have HY := hide hy
  have HT := hide ht
  have HNZ := hide hnz
  clear h hy ht hnz
  generalize hB : mayR zs n m x = B
  unfold mayR at hB
  by_cases x0 : x = 0
  · rw [if_pos x0] at hB
    subst x0 hB
    go_enter Try.func35, Try.ntmps35
    go_wp2
    go_ret
    exact ⟨rfl, rfl⟩
  rw [if_neg x0] at hB
  have b0 : (x == 0) = false := by simpa using x0
  have HBB := hide hB
  clear hB
  go_enter Try.func35, Try.ntmps35
  go_wp2
  go_loop [5] (fun v => ∃ k : Nat, m ≤ k ∧ k ≤ n ∧ v = .int .i64 ((k : Int) - 1)) (fun v => (intOf v + 1).toNat)
  case atStart => exact ⟨n, hm, Nat.le_refl _, by go_num⟩
  case round =>
    obtain ⟨k, hk1, hk, rfl⟩ := hrel
    by_cases hlt : m < k
    · have g0 : (0 : Int) ≤ (k : Int) - 1 := by omega
      have g1 : (k : Int) - 1 < (n : Int) := by omega
      have d0 : decide ((0 : Int) ≤ (k : Int) - 1) = true := by simp; omega
      obtain ⟨b, off, ha, hc⟩ := HH.out.cells (by omega)
      subst ha
      have r1 := hc (k - 1) (by omega)
      rw [HY.out _ (by omega), HT.out (k - 1) (by omega) (by omega)] at r1
      clear hc
      have e1 : (k : Int) - 1 = ((k - 1 : Nat) : Int) := by omega
      generalize hkk : k - 1 = kk at *
      go_wp2
      go_round
      case rel => exact ⟨kk, by omega, by omega, by go_num⟩
      case measure => simp [intOf]; omega
    · obtain rfl : k = m := by omega
      by_cases h0 : k = 0
      · subst h0
        have d0 : decide ((0 : Int) ≤ (0 : Int) - 1) = false := by decide
        have d1 : decide ((0 : Int) ≤ -1) = false := by decide
        have HB2 := HBB.out
        by_cases x1 : x = 1
        · rw [if_pos x1] at HBB
          subst x1
          have HF : Hid (B = false) := hide (by
            rw [← HBB.out, decide_eq_false_iff_not]
            omega)
          go_wp2
          go_ret
          exact ⟨by rw [HF.out]; rfl, rfl⟩
        · rw [if_neg x1] at HBB
          have b1 : (x == 1) = false := by simpa using x1
          by_cases x2 : x = 2
          · rw [if_pos x2] at HBB
            subst x2
            have HF : Hid (B = false) := hide (by
              rw [← HBB.out, decide_eq_false_iff_not]
              omega)
            go_wp2
            go_ret
            exact ⟨by rw [HF.out]; rfl, rfl⟩
          · rw [if_neg x2] at HBB
            have b2 : (x == 2) = false := by simpa using x2
            clear HB2
            have HX3 := hide (show 3 ≤ x by omega)
            go_wp2
            go_loop [7] (fun v => ∃ k : Nat, k ≤ n ∧ v = .int .i64 k ∧ Hid (∀ j, j < k → zs.getD j 0 < x)) (fun v => n - (intOf v).toNat)
            case atStart => exact ⟨0, by omega, rfl, fun j hj => by omega⟩
            case round =>
              obtain ⟨k, hk, rfl, hz⟩ := hrel
              by_cases hlt : k < n
              · have hlt' : (k : Int) < (n : Int) := by omega
                obtain ⟨b, off, ha, hc⟩ := HH.out.cells (by omega)
                subst ha
                have r1 := hc k hlt
                rw [HY.out k hlt] at r1
                clear hc
                obtain ⟨z, hzz⟩ : ∃ z, zs.getD k 0 = z := ⟨_, rfl⟩
                rw [hzz] at r1
                have HZ := hide hzz
                clear hzz
                by_cases hge : x ≤ z
                · have HF : Hid (B = false) := hide (by
                    rw [← HBB.out, decide_eq_false_iff_not]
                    intro hh
                    have := hh k hlt
                    rw [HZ.out] at this
                    omega)
                  go_wp2
                  go_ret
                  exact ⟨by rw [HF.out]; rfl, rfl⟩
                · have HN : Hid (∀ j, j < k + 1 → zs.getD j 0 < x) := hide (fun j hj => by
                    by_cases e : j = k
                    · subst e; rw [HZ.out]; omega
                    · exact hz.out j (by omega))
                  go_wp2
                  go_round
                  case rel => exact ⟨k + 1, by omega, by go_num, HN⟩
                  case measure => simp [intOf]; omega
              · obtain rfl : k = n := by omega
                have hlt' : ¬ (k : Int) < (k : Int) := by omega
                have HF : Hid (B = true) := hide (by
                  rw [← HBB.out, decide_eq_true_eq]
                  exact hz.out)
                go_wp2
                go_ret
                exact ⟨by rw [HF.out]; rfl, rfl⟩
      · have g0 : (0 : Int) ≤ (k : Int) - 1 := by omega
        have g1 : (k : Int) - 1 < (n : Int) := by omega
        have d0 : decide ((0 : Int) ≤ (k : Int) - 1) = true := by simp; omega
        obtain ⟨b, off, ha, hc⟩ := HH.out.cells (by omega)
        subst ha
        have r1 := hc (k - 1) (by omega)
        rw [HY.out _ (by omega)] at r1
        clear hc
        have hz0 := HNZ.out (by omega)
        obtain ⟨z, hzz⟩ : ∃ z, zs.getD (k - 1) 0 = z := ⟨_, rfl⟩
        rw [hzz] at r1 hz0
        have bz : (z == 0) = false := by simpa using hz0
        have e1 : (k : Int) - 1 = ((k - 1 : Nat) : Int) := by omega
        obtain ⟨u, hu⟩ : ∃ u, n - (k - 1) = u := ⟨_, rfl⟩
        have e2 : (n : Int) - ((k : Int) - 1) = (u : Int) := by omega
        have e3 : (n : Int) - ((k - 1 : Nat) : Int) = (u : Int) := by omega
        have tu : Int.tmod (u : Int) 2 = ((u % 2 : Nat) : Int) := by rw [Int.tmod_eq_emod_of_nonneg (by omega)]; omega
        rw [hzz, hu] at HBB
        have HZ := hide hzz
        clear hzz hu
        obtain ⟨v, hv⟩ : ∃ v, u % 2 = v := ⟨_, rfl⟩
        rw [hv] at HBB tu
        have e4 : (u : Int) % 2 = (v : Int) := by omega
        have hv2 : v < 2 := by omega
        clear hv
        generalize hkk : k - 1 = kk at *
        by_cases x1 : x = 1
        · rw [if_pos x1] at HBB
          subst x1
          by_cases hv1 : v = 1
          · subst hv1
            by_cases h3 : 3 ≤ z
            · have HF : Hid (B = true) := hide (by
                rw [← HBB.out, decide_eq_true_eq]
                omega)
              go_wp2
              go_ret
              exact ⟨by rw [HF.out]; rfl, rfl⟩
            · have HF : Hid (B = false) := hide (by
                rw [← HBB.out, decide_eq_false_iff_not]
                omega)
              go_wp2
              go_ret
              exact ⟨by rw [HF.out]; rfl, rfl⟩
          · have bv : ((v : Int) == 1) = false := by simp; omega
            have HF : Hid (B = false) := hide (by
              rw [← HBB.out, decide_eq_false_iff_not]
              omega)
            go_wp2
            go_ret
            exact ⟨by rw [HF.out]; rfl, rfl⟩
        · rw [if_neg x1] at HBB
          have b1 : (x == 1) = false := by simpa using x1
          by_cases x2 : x = 2
          · rw [if_pos x2] at HBB
            subst x2
            by_cases hv1 : v = 1
            · subst hv1
              by_cases h3 : z = 1
              · subst h3
                have HF : Hid (B = true) := hide (by
                  rw [← HBB.out, decide_eq_true_eq]
                  omega)
                go_wp2
                go_ret
                exact ⟨by rw [HF.out]; rfl, rfl⟩
              · have bz1 : (z == 1) = false := by simpa using h3
                have HF : Hid (B = false) := hide (by
                  rw [← HBB.out, decide_eq_false_iff_not]
                  omega)
                go_wp2
                go_ret
                exact ⟨by rw [HF.out]; rfl, rfl⟩
            · have bv : ((v : Int) == 1) = false := by simp; omega
              have HF : Hid (B = false) := hide (by
                rw [← HBB.out, decide_eq_false_iff_not]
                omega)
              go_wp2
              go_ret
              exact ⟨by rw [HF.out]; rfl, rfl⟩
          · rw [if_neg x2] at HBB
            have b2 : (x == 2) = false := by simpa using x2
            by_cases hv1 : v = 1
            · subst hv1
              have HX3 := hide (show 3 ≤ x by omega)
              go_wp2
              go_loop [7] (fun v => ∃ k : Nat, k ≤ n ∧ v = .int .i64 k ∧ Hid (∀ j, j < k → zs.getD j 0 < x)) (fun v => n - (intOf v).toNat)
              case atStart => exact ⟨0, by omega, rfl, fun j hj => by omega⟩
              case round =>
                obtain ⟨k, hk, rfl, hz⟩ := hrel
                by_cases hlt : k < n
                · have hlt' : (k : Int) < (n : Int) := by omega
                  obtain ⟨b, off, ha, hc⟩ := HH.out.cells (by omega)
                  simp only [Option.some.injEq, Addr.mk.injEq] at ha
                  obtain ⟨rfl, rfl, _⟩ := ha
                  have r1 := hc k hlt
                  rw [HY.out k hlt] at r1
                  clear hc
                  obtain ⟨z, hzz⟩ : ∃ z, zs.getD k 0 = z := ⟨_, rfl⟩
                  rw [hzz] at r1
                  have HZ := hide hzz
                  clear hzz
                  by_cases hge : x ≤ z
                  · have HF : Hid (B = false) := hide (by
                      rw [← HBB.out, decide_eq_false_iff_not]
                      intro hh
                      have := hh k hlt
                      rw [HZ.out] at this
                      omega)
                    go_wp2
                    go_ret
                    exact ⟨by rw [HF.out]; rfl, rfl⟩
                  · have HN : Hid (∀ j, j < k + 1 → zs.getD j 0 < x) := hide (fun j hj => by
                      by_cases e : j = k
                      · subst e; rw [HZ.out]; omega
                      · exact hz.out j (by omega))
                    go_wp2
                    go_round
                    case rel => exact ⟨k + 1, by omega, by go_num, HN⟩
                    case measure => simp [intOf]; omega
                · obtain rfl : k = n := by omega
                  have hlt' : ¬ (k : Int) < (k : Int) := by omega
                  have HF : Hid (B = true) := hide (by
                    rw [← HBB.out, decide_eq_true_eq]
                    exact hz.out)
                  go_wp2
                  go_ret
                  exact ⟨by rw [HF.out]; rfl, rfl⟩
            · have bv : ((v : Int) == 1) = false := by simp; omega
              have HX3 := hide (show 3 ≤ x by omega)
              go_wp2
              go_loop [7] (fun v => ∃ k : Nat, k ≤ n ∧ v = .int .i64 k ∧ Hid (∀ j, j < k → zs.getD j 0 < x)) (fun v => n - (intOf v).toNat)
              case atStart => exact ⟨0, by omega, rfl, fun j hj => by omega⟩
              case round =>
                obtain ⟨k, hk, rfl, hz⟩ := hrel
                by_cases hlt : k < n
                · have hlt' : (k : Int) < (n : Int) := by omega
                  obtain ⟨b, off, ha, hc⟩ := HH.out.cells (by omega)
                  simp only [Option.some.injEq, Addr.mk.injEq] at ha
                  obtain ⟨rfl, rfl, _⟩ := ha
                  have r1 := hc k hlt
                  rw [HY.out k hlt] at r1
                  clear hc
                  obtain ⟨z, hzz⟩ : ∃ z, zs.getD k 0 = z := ⟨_, rfl⟩
                  rw [hzz] at r1
                  have HZ := hide hzz
                  clear hzz
                  by_cases hge : x ≤ z
                  · have HF : Hid (B = false) := hide (by
                      rw [← HBB.out, decide_eq_false_iff_not]
                      intro hh
                      have := hh k hlt
                      rw [HZ.out] at this
                      omega)
                    go_wp2
                    go_ret
                    exact ⟨by rw [HF.out]; rfl, rfl⟩
                  · have HN : Hid (∀ j, j < k + 1 → zs.getD j 0 < x) := hide (fun j hj => by
                      by_cases e : j = k
                      · subst e; rw [HZ.out]; omega
                      · exact hz.out j (by omega))
                    go_wp2
                    go_round
                    case rel => exact ⟨k + 1, by omega, by go_num, HN⟩
                    case measure => simp [intOf]; omega
                · obtain rfl : k = n := by omega
                  have hlt' : ¬ (k : Int) < (k : Int) := by omega
                  have HF : Hid (B = true) := hide (by
                    rw [← HBB.out, decide_eq_true_eq]
                    exact hz.out)
                  go_wp2
                  go_ret
                  exact ⟨by rw [HF.out]; rfl, rfl⟩

end Go.Proofs.Ytiihnlpoagnkhaa
