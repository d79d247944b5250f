/-
  'gameroomlaw.DeckDeals' returns true for every list, hands and each, and changes nothing that was there.
-/
import Derived.Test.YtdipbbcggccgcaaDeal
namespace Go.Proofs.Ytdipbbcggccgcaa
open Go.RowKit

set_option maxHeartbeats 1000000 in
theorem deals_size (a : Option Addr) (n c : Nat) (zs : List Int) (H E : Int) (w : World) (h : Rd w a n c zs) (hr : n * 8 ≤ 140737488351232) (hbad : 104 < n ∨ H < 1 ∨ 10 < H ∨ E < 0) :
    Calls Try.prog 6 #[.slice a n c, .int .i64 H, .int .i64 E] w fun e w' => e = .returned (.bool true) ∧ Below w.heap.size w w' := by
  have hcm := h.max
  have hcn := h.cap
  unfold maxLen at hcm
  have HH := hide h
  clear h
  by_cases h1 : 104 < n
  · go_enter Try.func6, Try.ntmps6
    go_wp2_with fail
    refine (ints_any _ n c zs _ HH.out hr).mono ?_
    rintro e w1 ⟨a1, c1, rfl, hR1, hB1⟩
    go_wp2_with fail
    refine (Deal_size _ _ _ _ _ _ hbad).mono ?_
    rintro e w2 ⟨rfl, rfl⟩
    go_wp2_with fail
    go_ret
    exact ⟨rfl, hB1⟩
  · by_cases h2 : H < 1
    · go_enter Try.func6, Try.ntmps6
      go_wp2_with fail
      refine (ints_any _ n c zs _ HH.out hr).mono ?_
      rintro e w1 ⟨a1, c1, rfl, hR1, hB1⟩
      go_wp2_with fail
      refine (Deal_size _ _ _ _ _ _ hbad).mono ?_
      rintro e w2 ⟨rfl, rfl⟩
      go_wp2_with fail
      go_ret
      exact ⟨rfl, hB1⟩
    · by_cases h3 : 10 < H
      · go_enter Try.func6, Try.ntmps6
        go_wp2_with fail
        refine (ints_any _ n c zs _ HH.out hr).mono ?_
        rintro e w1 ⟨a1, c1, rfl, hR1, hB1⟩
        go_wp2_with fail
        refine (Deal_size _ _ _ _ _ _ hbad).mono ?_
        rintro e w2 ⟨rfl, rfl⟩
        go_wp2_with fail
        go_ret
        exact ⟨rfl, hB1⟩
      · have h4 : E < 0 := by omega
        go_enter Try.func6, Try.ntmps6
        go_wp2_with fail
        refine (ints_any _ n c zs _ HH.out hr).mono ?_
        rintro e w1 ⟨a1, c1, rfl, hR1, hB1⟩
        go_wp2_with fail
        refine (Deal_size _ _ _ _ _ _ hbad).mono ?_
        rintro e w2 ⟨rfl, rfl⟩
        go_wp2_with fail
        go_ret
        exact ⟨rfl, hB1⟩

set_option maxHeartbeats 1000000 in
theorem deals_count (a : Option Addr) (n c H E : Nat) (zs : List Int) (w : World) (h : Rd w a n c zs) (hr : n * 8 ≤ 140737488351232) (hn : n ≤ 104) (h1 : 1 ≤ H) (h2 : H ≤ 10) (hE : n / H < E) :
    Calls Try.prog 6 #[.slice a n c, .int .i64 H, .int .i64 E] w fun e w' => e = .returned (.bool true) ∧ Below w.heap.size w w' := by
  have hcm := h.max
  have hcn := h.cap
  unfold maxLen at hcm
  have HH := hide h
  clear h
  have hq : (n : Int) / (H : Int) = ((n / H : Nat) : Int) := by simp
  have hle : n / H ≤ n := Nat.div_le_self _ _
  have HE' := hide hE
  have h' : ((n / H : Nat) : Int) < (E : Int) := by omega
  go_enter Try.func6, Try.ntmps6
  go_wp2_with fail
  refine (ints_any _ n c zs _ HH.out hr).mono ?_
  rintro e w1 ⟨a1, c1, rfl, hR1, hB1⟩
  go_wp2_with fail
  refine (Deal_count _ _ _ _ _ _ hn h1 h2 HE'.out).mono ?_
  rintro e w2 ⟨rfl, rfl⟩
  generalize hDe : n / H = D at *
  clear hDe HE'
  go_wp2_with fail
  go_ret
  exact ⟨rfl, hB1⟩

set_option maxHeartbeats 1000000 in
theorem deals_yes (a : Option Addr) (n c H E : Nat) (zs : List Int) (w : World) (h : Rd w a n c zs) (hr : n * 8 ≤ 140737488351232) (hn : n ≤ 104) (h1 : 1 ≤ H) (h2 : H ≤ 10) (hE : E ≤ n / H) :
    Calls Try.prog 6 #[.slice a n c, .int .i64 H, .int .i64 E] w fun e w' => e = .returned (.bool true) ∧ Below w.heap.size w w' := by
  have hcm := h.max
  have hcn := h.cap
  unfold maxLen at hcm
  have HH := hide h
  clear h
  have hq : (n : Int) / (H : Int) = ((n / H : Nat) : Int) := by simp
  have hle : n / H ≤ n := Nat.div_le_self _ _
  have hHE : H * E ≤ n := Nat.le_trans (Nat.mul_le_mul_left H hE) (Nat.mul_div_le n H)
  have HE' := hide hE
  have h' : ¬ ((n / H : Nat) : Int) < (E : Int) := by omega
  have hP : (H : Int) * (E : Int) = ((H * E : Nat) : Int) := by simp
  have hEn : E ≤ 104 := by omega
  go_enter Try.func6, Try.ntmps6
  go_wp2_with fail
  refine (ints_any _ n c zs _ HH.out hr).mono ?_
  rintro e w1 ⟨a1, c1, rfl, hR1, hB1⟩
  go_wp2_with fail
  refine (Deal_yes _ _ _ _ _ zs _ hR1 hn h1 h2 HE'.out).mono ?_
  rintro e w2 ⟨B, vs, a2, c2, rfl, hD, hR2, hB2⟩
  have HB := hide (hB1.trans (hB2.mono hB1.size))
  have HD := hide hD
  have HR2 := hide hR2
  have HR0 := hide ((HH.out.mono HB.out).from hHE)
  clear hB1 hB2 hD hR2 hR1
  generalize hDe : n / H = D at *
  clear hDe HE'
  generalize hPe : H * E = P at *
  have HPe := hide hPe
  clear hPe
  have hHH : ((H : Int) != (H : Int)) = false := by simp
  by_cases hcP : c = P
  · subst hcP
    rw [if_pos rfl, Nat.sub_self] at HR0
    have hnc : n - c = 0 := by omega
    rw [hnc] at HR0 HR2
    clear hnc
    go_wp2_with fail
    refine (sameInts_any _ _ _ _ _ _ _ _ _ HR2.out HR0.out).mono ?_
    rintro e w3 ⟨rfl, q, rfl⟩
    simp only [decide_true]
    clear HR2 HR0
    go_wp2_with fail
    go_loopw [11] (fun i wr => ∃ (k q : Nat), k ≤ H ∧ i = .int .i64 k ∧ wr = w2.drewN q) (fun i _ => H - (intOf i).toNat)
    case atStart => exact ⟨0, q, by omega, rfl, rfl⟩
    case round =>
      obtain ⟨i, q, hi, rfl, rfl⟩ := hrel
      by_cases hil : i < H
      · obtain ⟨g, hg1, hg2, hg3⟩ := HD.out.hands i hil
        have cH := HD.out.own.cellAt i (by omega)
        rw [hg2] at cH
        have hee : ((E : Int) != (E : Int)) = false := by simp
        have HG := hide hg3
        clear hg2 hg3 hg1
        go_wp2_with fail
        go_loopw [12] (fun k wr => ∃ (t q : Nat), t ≤ E ∧ k = .int .i64 t ∧ wr = w2.drewN q) (fun k _ => E - (intOf k).toNat)
        case atStart => exact ⟨0, q, by omega, rfl, rfl⟩
        case round =>
          obtain ⟨t, q, ht, rfl, rfl⟩ := hrel
          by_cases htl : t < E
          · have hidx : t * H + i < n := by
              have e1 : (t + 1) * H ≤ E * H := Nat.mul_le_mul_right H htl
              rw [Nat.succ_mul, Nat.mul_comm E H, HPe.out] at e1
              omega
            obtain ⟨bb, off, ha, hc⟩ := HH.out.cells (by omega)
            subst ha
            have hbl : bb < w.heap.size := World.block_lt_of_cell? w _ (hc 0 (by omega))
            have r1 := hc (t * H + i) hidx
            rw [← HB.out.cell (p := ⟨bb, off + (t * H + i), none⟩) hbl] at r1
            have hTH : (t : Int) * (H : Int) = ((t * H : Nat) : Int) := by simp
            have r2 := (HG.out.cell htl).2
            rw [handOf_get _ _ _ _ _ htl, Nat.zero_add] at r2
            have hth0 : ((t * H : Nat) : Int) ≤ 104 := by omega
            clear hc
            have hvv : ((zs[t * H + i]?.getD 0) != (zs[t * H + i]?.getD 0)) = false := by simp
            generalize t * H = Q at *
            go_wp2_with fail
            go_quiet (fail)
            go_wp2_with fail
            go_roundw
            case rel => exact ⟨t + 1, _, by omega, by go_num, rfl⟩
            case measure => simp [intOf]; omega
          · have hte : t = E := by omega
            subst t
            have hlt2 : ¬ (E : Int) < (E : Int) := by omega
            go_wp2_with fail
            go_roundw
            case rel => exact ⟨i + 1, _, by omega, by go_num, rfl⟩
            case measure => simp [intOf]; omega
      · have hie : i = H := by omega
        subst i
        have hlt2 : ¬ (H : Int) < (H : Int) := by omega
        go_wp2_with fail
        go_ret
        exact ⟨rfl, below_drewN HB.out _⟩
  · rw [if_neg hcP] at HR0
    go_wp2_with fail
    refine (sameInts_any _ _ _ _ _ _ _ _ _ HR2.out HR0.out).mono ?_
    rintro e w3 ⟨rfl, q, rfl⟩
    simp only [decide_true]
    clear HR2 HR0
    go_wp2_with fail
    go_loopw [11] (fun i wr => ∃ (k q : Nat), k ≤ H ∧ i = .int .i64 k ∧ wr = w2.drewN q) (fun i _ => H - (intOf i).toNat)
    case atStart => exact ⟨0, q, by omega, rfl, rfl⟩
    case round =>
      obtain ⟨i, q, hi, rfl, rfl⟩ := hrel
      by_cases hil : i < H
      · obtain ⟨g, hg1, hg2, hg3⟩ := HD.out.hands i hil
        have cH := HD.out.own.cellAt i (by omega)
        rw [hg2] at cH
        have hee : ((E : Int) != (E : Int)) = false := by simp
        have HG := hide hg3
        clear hg2 hg3 hg1
        go_wp2_with fail
        go_loopw [12] (fun k wr => ∃ (t q : Nat), t ≤ E ∧ k = .int .i64 t ∧ wr = w2.drewN q) (fun k _ => E - (intOf k).toNat)
        case atStart => exact ⟨0, q, by omega, rfl, rfl⟩
        case round =>
          obtain ⟨t, q, ht, rfl, rfl⟩ := hrel
          by_cases htl : t < E
          · have hidx : t * H + i < n := by
              have e1 : (t + 1) * H ≤ E * H := Nat.mul_le_mul_right H htl
              rw [Nat.succ_mul, Nat.mul_comm E H, HPe.out] at e1
              omega
            obtain ⟨bb, off, ha, hc⟩ := HH.out.cells (by omega)
            subst ha
            have hbl : bb < w.heap.size := World.block_lt_of_cell? w _ (hc 0 (by omega))
            have r1 := hc (t * H + i) hidx
            rw [← HB.out.cell (p := ⟨bb, off + (t * H + i), none⟩) hbl] at r1
            have hTH : (t : Int) * (H : Int) = ((t * H : Nat) : Int) := by simp
            have r2 := (HG.out.cell htl).2
            rw [handOf_get _ _ _ _ _ htl, Nat.zero_add] at r2
            have hth0 : ((t * H : Nat) : Int) ≤ 104 := by omega
            clear hc
            have hvv : ((zs[t * H + i]?.getD 0) != (zs[t * H + i]?.getD 0)) = false := by simp
            generalize t * H = Q at *
            go_wp2_with fail
            go_quiet (fail)
            go_wp2_with fail
            go_roundw
            case rel => exact ⟨t + 1, _, by omega, by go_num, rfl⟩
            case measure => simp [intOf]; omega
          · have hte : t = E := by omega
            subst t
            have hlt2 : ¬ (E : Int) < (E : Int) := by omega
            go_wp2_with fail
            go_roundw
            case rel => exact ⟨i + 1, _, by omega, by go_num, rfl⟩
            case measure => simp [intOf]; omega
      · have hie : i = H := by omega
        subst i
        have hlt2 : ¬ (H : Int) < (H : Int) := by omega
        go_wp2_with fail
        go_ret
        exact ⟨rfl, below_drewN HB.out _⟩

theorem deals_any (a : Option Addr) (n c : Nat) (zs : List Int) (H E : Int) (w : World) (h : Rd w a n c zs) (hr : n * 8 ≤ 140737488351232) :
    Calls Try.prog 6 #[.slice a n c, .int .i64 H, .int .i64 E] w fun e w' => e = .returned (.bool true) ∧ Below w.heap.size w w' := by
  by_cases hbad : 104 < n ∨ H < 1 ∨ 10 < H ∨ E < 0
  · exact deals_size a n c zs H E w h hr hbad
  · obtain ⟨H', rfl⟩ := Int.eq_ofNat_of_zero_le (show 0 ≤ H by omega)
    obtain ⟨E', rfl⟩ := Int.eq_ofNat_of_zero_le (show 0 ≤ E by omega)
    rcases Nat.lt_or_ge (n / H') E' with h1 | h1
    · exact deals_count a n c H' E' zs w h hr (by omega) (by omega) (by omega) h1
    · exact deals_yes a n c H' E' zs w h hr (by omega) (by omega) (by omega) h1

end Go.Proofs.Ytdipbbcggccgcaa
