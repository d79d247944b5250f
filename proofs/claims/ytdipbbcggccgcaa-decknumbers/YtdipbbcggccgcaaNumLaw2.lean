/-
  'gameroomlaw.DeckNumbers' returns true for every list, n and k, and changes nothing that was there.
-/
import Derived.Test.YtdipbbcggccgcaaNumLaw1
namespace Go.Proofs.Ytdipbbcggccgcaa
open Go.RowKit


set_option maxHeartbeats 2000000 in
theorem numbers_yes_size (a : Option Addr) (len c : Nat) (zs : List Int) (n k : Int) (hm : n < 0 ∨ 12 < n) (w : World) (h : Rd w a len c zs) (hr : len * 8 ≤ 140737488351232) (hl : len ≤ 104) (hl2 : len ≤ 12) (ho : IsOrd zs) :
    Calls Try.prog 7 #[.slice a len c, .int .i64 n, .int .i64 k] w fun e w' => e = .returned (.bool true) ∧ Below w.heap.size w w' := by
  have hcm := h.max
  have hcn := h.cap
  unfold maxLen at hcm
  have HH := hide h
  have HB := hide (Below.refl w.heap.size w)
  have HO := hide ho
  clear ho
  clear h
  go_enter Try.func7, Try.ntmps7
  go_wp2_with fail
  refine (ints_any _ len c zs _ (HH.out.mono HB.out) hr).mono ?_
  rintro e w1 ⟨a1, c1, rfl, hR1, hB⟩
  replace HB := hide (below_call HB.out hB)
  clear hB
  go_wp2_with fail
  refine (Sign_yes _ _ _ zs _ hR1 hl HO.out).mono ?_
  rintro e w2 ⟨rfl, hB⟩
  replace HB := hide (below_call HB.out hB)
  clear hB
  clear hR1
  go_wp2_with fail
  refine (ints_any _ len c zs _ (HH.out.mono HB.out) hr).mono ?_
  rintro e w3 ⟨a3, c3, rfl, hR3, hB⟩
  replace HB := hide (below_call HB.out hB)
  clear hB
  go_wp2_with fail
  refine (Number_yes _ _ _ zs _ hR3 hl2 HO.out).mono ?_
  rintro e w4 ⟨rfl, hB⟩
  replace HB := hide (below_call HB.out hB)
  clear hB
  clear hR3
  go_wp2_with fail
  refine (Nth_size _ _ _ hm).mono ?_
  rintro e w5 ⟨rfl, hw⟩
  subst w5
  go_wp2_with fail
  refine (OrderIs_any _ _ _ zs _ (HH.out.mono HB.out) true (by simp [HO.out])).mono ?_
  rintro e w6 ⟨rfl, hw⟩
  subst w6
  have hsg := signN_bd (pairs zs)
  go_wp2_with fail
  refine (SignOf_any _ _ _ zs _ (HH.out.mono HB.out)).mono ?_
  rintro e w7 ⟨rfl, q7, rfl⟩
  replace HB := hide (below_drewN HB.out q7)
  have hsn : (signN (pairs zs) != signN (pairs zs)) = false := by simp
  go_wp2_with fail
  refine (OrderIs_any _ _ _ zs _ (HH.out.mono HB.out) true (by simp [HO.out])).mono ?_
  rintro e w8 ⟨rfl, hw⟩
  subst w8
  have hnn : (((numTo zs len : Nat) : Int) != ((numTo zs len : Nat) : Int)) = false := by simp
  go_wp2_with fail
  refine (NumberOf_any _ _ _ zs _ (HH.out.mono HB.out) hl2).mono ?_
  rintro e w9 ⟨rfl, q9, rfl⟩
  replace HB := hide (below_drewN HB.out q9)
  rw [World.drewN_drewN] at HB
  by_cases hm1 : n < 0
  · go_wp2_with fail
    go_ret
    exact ⟨rfl, HB.out⟩
  · have hm2 : 12 < n := by omega
    go_wp2_with fail
    go_ret
    exact ⟨rfl, HB.out⟩

set_option maxHeartbeats 2000000 in
theorem numbers_yes_range (a : Option Addr) (len c : Nat) (zs : List Int) (n : Nat) (k : Int) (hn : n ≤ 12) (hm : k < 0 ∨ (fact n : Int) ≤ k) (w : World) (h : Rd w a len c zs) (hr : len * 8 ≤ 140737488351232) (hl : len ≤ 104) (hl2 : len ≤ 12) (ho : IsOrd zs) :
    Calls Try.prog 7 #[.slice a len c, .int .i64 n, .int .i64 k] w fun e w' => e = .returned (.bool true) ∧ Below w.heap.size w w' := by
  have hcm := h.max
  have hcn := h.cap
  unfold maxLen at hcm
  have HH := hide h
  have HB := hide (Below.refl w.heap.size w)
  have HO := hide ho
  clear ho
  clear h
  have hfn := fact_le n hn
  go_enter Try.func7, Try.ntmps7
  go_wp2_with fail
  refine (ints_any _ len c zs _ (HH.out.mono HB.out) hr).mono ?_
  rintro e w1 ⟨a1, c1, rfl, hR1, hB⟩
  replace HB := hide (below_call HB.out hB)
  clear hB
  go_wp2_with fail
  refine (Sign_yes _ _ _ zs _ hR1 hl HO.out).mono ?_
  rintro e w2 ⟨rfl, hB⟩
  replace HB := hide (below_call HB.out hB)
  clear hB
  clear hR1
  go_wp2_with fail
  refine (ints_any _ len c zs _ (HH.out.mono HB.out) hr).mono ?_
  rintro e w3 ⟨a3, c3, rfl, hR3, hB⟩
  replace HB := hide (below_call HB.out hB)
  clear hB
  go_wp2_with fail
  refine (Number_yes _ _ _ zs _ hR3 hl2 HO.out).mono ?_
  rintro e w4 ⟨rfl, hB⟩
  replace HB := hide (below_call HB.out hB)
  clear hB
  clear hR3
  go_wp2_with fail
  refine (Nth_range n _ _ hn hm).mono ?_
  rintro e w5 ⟨rfl, hw⟩
  subst w5
  go_wp2_with fail
  refine (OrderIs_any _ _ _ zs _ (HH.out.mono HB.out) true (by simp [HO.out])).mono ?_
  rintro e w6 ⟨rfl, hw⟩
  subst w6
  have hsg := signN_bd (pairs zs)
  go_wp2_with fail
  refine (SignOf_any _ _ _ zs _ (HH.out.mono HB.out)).mono ?_
  rintro e w7 ⟨rfl, q7, rfl⟩
  replace HB := hide (below_drewN HB.out q7)
  have hsn : (signN (pairs zs) != signN (pairs zs)) = false := by simp
  go_wp2_with fail
  refine (OrderIs_any _ _ _ zs _ (HH.out.mono HB.out) true (by simp [HO.out])).mono ?_
  rintro e w8 ⟨rfl, hw⟩
  subst w8
  have hnn : (((numTo zs len : Nat) : Int) != ((numTo zs len : Nat) : Int)) = false := by simp
  go_wp2_with fail
  refine (NumberOf_any _ _ _ zs _ (HH.out.mono HB.out) hl2).mono ?_
  rintro e w9 ⟨rfl, q9, rfl⟩
  replace HB := hide (below_drewN HB.out q9)
  rw [World.drewN_drewN] at HB
  go_wp2_with fail
  go_loop [13, 14] (fun f i => ∃ t : Nat, (t + 1 ≤ n ∨ t = 0) ∧ i = .int .i64 ((t : Int) + 2) ∧ f = .int .i64 (fact (t + 1) : Nat)) (fun _ i => n + 2 - (intOf i).toNat)
  case atStart => exact ⟨0, .inr rfl, rfl, rfl⟩
  case round =>
    obtain ⟨t, ht, rfl, rfl⟩ := hrel
    have hf := fact_le (t + 1) (by omega)
    have HN : Hid (fact (t + 1 + 1) = fact (t + 1) * (t + 1 + 1)) := rfl
    have HE : Hid (n ≤ t + 1 → fact (t + 1) = fact n) := hide (fun h => by
      by_cases e : n = 0
      · subst e; obtain rfl : t = 0 := by omega
        rfl
      · rw [show t + 1 = n by omega])
    by_cases hlt : t + 2 ≤ n
    · obtain ⟨S, hS⟩ : ∃ S, S = fact (t + 1) := ⟨_, rfl⟩
      rw [← hS] at hf HN HE ⊢
      clear hS
      have hlt' : (t : Int) + 2 ≤ (n : Int) := by omega
      have hmul : (S : Int) * ((t : Int) + 2) = ((S * (t + 1 + 1) : Nat) : Int) := by
        rw [Int.natCast_mul]; rfl
      have hQ : S * (t + 1 + 1) ≤ 479001600 * 12 := Nat.mul_le_mul hf (by omega)
      generalize S * (t + 1 + 1) = Q at *
      go_wp2_with fail
      go_round
      case rel => exact ⟨t + 1, .inl (by omega), by go_num, by rw [HN.out]⟩
      case measure => simp [intOf]; omega
    · have hlt' : ¬ (t : Int) + 2 ≤ (n : Int) := by omega
      have HE' := hide (HE.out (by omega))
      rw [HE'.out] at hf ⊢
      clear HE HN HE'
      by_cases hm1 : k < 0
      · go_wp2_with fail
        go_ret
        exact ⟨rfl, HB.out⟩
      · have hm2 : (fact n : Int) ≤ k := by omega
        generalize fact n = F at *
        go_wp2_with fail
        go_ret
        exact ⟨rfl, HB.out⟩

set_option maxHeartbeats 2000000 in
theorem numbers_yes_good (a : Option Addr) (len c : Nat) (zs : List Int) (n k : Nat) (hn : n ≤ 12) (hm : k < fact n) (w : World) (h : Rd w a len c zs) (hr : len * 8 ≤ 140737488351232) (hl : len ≤ 104) (hl2 : len ≤ 12) (ho : IsOrd zs) :
    Calls Try.prog 7 #[.slice a len c, .int .i64 n, .int .i64 k] w fun e w' => e = .returned (.bool true) ∧ Below w.heap.size w w' := by
  have hcm := h.max
  have hcn := h.cap
  unfold maxLen at hcm
  have HH := hide h
  have HB := hide (Below.refl w.heap.size w)
  have HO := hide ho
  clear ho
  clear h
  have hfn := fact_le n hn
  go_enter Try.func7, Try.ntmps7
  go_wp2_with fail
  refine (ints_any _ len c zs _ (HH.out.mono HB.out) hr).mono ?_
  rintro e w1 ⟨a1, c1, rfl, hR1, hB⟩
  replace HB := hide (below_call HB.out hB)
  clear hB
  go_wp2_with fail
  refine (Sign_yes _ _ _ zs _ hR1 hl HO.out).mono ?_
  rintro e w2 ⟨rfl, hB⟩
  replace HB := hide (below_call HB.out hB)
  clear hB
  clear hR1
  go_wp2_with fail
  refine (ints_any _ len c zs _ (HH.out.mono HB.out) hr).mono ?_
  rintro e w3 ⟨a3, c3, rfl, hR3, hB⟩
  replace HB := hide (below_call HB.out hB)
  clear hB
  go_wp2_with fail
  refine (Number_yes _ _ _ zs _ hR3 hl2 HO.out).mono ?_
  rintro e w4 ⟨rfl, hB⟩
  replace HB := hide (below_call HB.out hB)
  clear hB
  clear hR3
  go_wp2_with fail
  refine (Nth_yes n k _ hn hm).mono ?_
  rintro e w5 ⟨a5, c5, rfl, hR5, hB⟩
  replace HB := hide (below_call HB.out hB)
  have HR5 := hide hR5
  clear hB hR5
  go_wp2_with fail
  refine (OrderIs_any _ _ _ zs _ (HH.out.mono HB.out) true (by simp [HO.out])).mono ?_
  rintro e w6 ⟨rfl, hw⟩
  subst w6
  have hsg := signN_bd (pairs zs)
  go_wp2_with fail
  refine (SignOf_any _ _ _ zs _ (HH.out.mono HB.out)).mono ?_
  rintro e w7 ⟨rfl, q7, rfl⟩
  replace HR5 := hide (HR5.out.mono (below_drewN (Below.refl _ _) q7))
  replace HB := hide (below_drewN HB.out q7)
  have hsn : (signN (pairs zs) != signN (pairs zs)) = false := by simp
  go_wp2_with fail
  refine (OrderIs_any _ _ _ zs _ (HH.out.mono HB.out) true (by simp [HO.out])).mono ?_
  rintro e w8 ⟨rfl, hw⟩
  subst w8
  have hnn : (((numTo zs len : Nat) : Int) != ((numTo zs len : Nat) : Int)) = false := by simp
  go_wp2_with fail
  refine (NumberOf_any _ _ _ zs _ (HH.out.mono HB.out) hl2).mono ?_
  rintro e w9 ⟨rfl, q9, rfl⟩
  replace HR5 := hide (HR5.out.mono (below_drewN (Below.refl _ _) q9))
  rw [World.drewN_drewN] at HR5
  replace HB := hide (below_drewN HB.out q9)
  rw [World.drewN_drewN] at HB
  go_wp2_with fail
  go_loop [13, 14] (fun f i => ∃ t : Nat, (t + 1 ≤ n ∨ t = 0) ∧ i = .int .i64 ((t : Int) + 2) ∧ f = .int .i64 (fact (t + 1) : Nat)) (fun _ i => n + 2 - (intOf i).toNat)
  case atStart => exact ⟨0, .inr rfl, rfl, rfl⟩
  case round =>
    obtain ⟨t, ht, rfl, rfl⟩ := hrel
    have hf := fact_le (t + 1) (by omega)
    have HN : Hid (fact (t + 1 + 1) = fact (t + 1) * (t + 1 + 1)) := rfl
    have HE : Hid (n ≤ t + 1 → fact (t + 1) = fact n) := hide (fun h => by
      by_cases e : n = 0
      · subst e; obtain rfl : t = 0 := by omega
        rfl
      · rw [show t + 1 = n by omega])
    by_cases hlt : t + 2 ≤ n
    · obtain ⟨S, hS⟩ : ∃ S, S = fact (t + 1) := ⟨_, rfl⟩
      rw [← hS] at hf HN HE ⊢
      clear hS
      have hlt' : (t : Int) + 2 ≤ (n : Int) := by omega
      have hmul : (S : Int) * ((t : Int) + 2) = ((S * (t + 1 + 1) : Nat) : Int) := by
        rw [Int.natCast_mul]; rfl
      have hQ : S * (t + 1 + 1) ≤ 479001600 * 12 := Nat.mul_le_mul hf (by omega)
      generalize S * (t + 1 + 1) = Q at *
      go_wp2_with fail
      go_round
      case rel => exact ⟨t + 1, .inl (by omega), by go_num, by rw [HN.out]⟩
      case measure => simp [intOf]; omega
    · have hlt' : ¬ (t : Int) + 2 ≤ (n : Int) := by omega
      have HE' := hide (HE.out (by omega))
      rw [HE'.out] at hf ⊢
      clear HE HN HE'
      have hm1 : ¬ (k : Int) < 0 := by omega
      have hm2 : ¬ (fact n : Int) ≤ (k : Int) := by omega
      have hm3 := hide hm
      clear hm
      generalize hFF : fact n = F at *
      have HFF := hide hFF
      clear hFF
      go_wp2_with fail
      refine (NthOf_any n k _ hn (by rw [HFF.out]; exact hm3.out)).mono ?_
      rintro e w10 ⟨a10, c10, rfl, hR10, hB⟩
      replace HR5 := hide (HR5.out.mono hB)
      replace HB := hide (below_call HB.out hB)
      have HR10 := hide hR10
      clear hB hR10
      go_wp2_with fail
      refine (sameInts_any _ _ _ _ _ _ _ _ _ HR5.out HR10.out).mono ?_
      rintro e w11 ⟨rfl, q11, rfl⟩
      simp only [decide_true]
      replace HB := hide (below_drewN HB.out q11)
      go_wp2_with fail
      go_ret
      exact ⟨rfl, HB.out⟩

theorem numbers_any (a : Option Addr) (len c : Nat) (zs : List Int) (n k : Int) (w : World) (h : Rd w a len c zs) (hr : len * 8 ≤ 140737488351232) :
    Calls Try.prog 7 #[.slice a len c, .int .i64 n, .int .i64 k] w fun e w' => e = .returned (.bool true) ∧ Below w.heap.size w w' := by
  by_cases hm : n < 0 ∨ 12 < n
  · by_cases h1 : 104 < len
    · exact numbers_big_size a len c zs n k hm w h hr h1
    · by_cases ho : IsOrd zs
      · by_cases h2 : 12 < len
        · exact numbers_midyes_size a len c zs n k hm w h hr (by omega) h2 ho
        · exact numbers_yes_size a len c zs n k hm w h hr (by omega) (by omega) ho
      · by_cases h2 : 12 < len
        · exact numbers_midno_size a len c zs n k hm w h hr (by omega) h2 ho
        · exact numbers_no_size a len c zs n k hm w h hr (by omega) (by omega) ho
  · obtain ⟨m, rfl⟩ := Int.eq_ofNat_of_zero_le (show 0 ≤ n by omega)
    have hn : m ≤ 12 := by omega
    by_cases hk : k < 0 ∨ (fact m : Int) ≤ k
    · by_cases h1 : 104 < len
      · exact numbers_big_range a len c zs m k hn hk w h hr h1
      · by_cases ho : IsOrd zs
        · by_cases h2 : 12 < len
          · exact numbers_midyes_range a len c zs m k hn hk w h hr (by omega) h2 ho
          · exact numbers_yes_range a len c zs m k hn hk w h hr (by omega) (by omega) ho
        · by_cases h2 : 12 < len
          · exact numbers_midno_range a len c zs m k hn hk w h hr (by omega) h2 ho
          · exact numbers_no_range a len c zs m k hn hk w h hr (by omega) (by omega) ho
    · obtain ⟨q, rfl⟩ := Int.eq_ofNat_of_zero_le (show 0 ≤ k by omega)
      have hq : q < fact m := by omega
      by_cases h1 : 104 < len
      · exact numbers_big_good a len c zs m q hn hq w h hr h1
      · by_cases ho : IsOrd zs
        · by_cases h2 : 12 < len
          · exact numbers_midyes_good a len c zs m q hn hq w h hr (by omega) h2 ho
          · exact numbers_yes_good a len c zs m q hn hq w h hr (by omega) (by omega) ho
        · by_cases h2 : 12 < len
          · exact numbers_midno_good a len c zs m q hn hq w h hr (by omega) h2 ho
          · exact numbers_no_good a len c zs m q hn hq w h hr (by omega) (by omega) ho

end Go.Proofs.Ytdipbbcggccgcaa
