/-
  What package deck's Nth answers where n and k are within their bounds.
-/
import Derived.Test.YtdhacmcdbpojlaaNth
namespace Go.Proofs.Ytdhacmcdbpojlaa
open Go.RowKit

set_option maxRecDepth 100000 in
set_option maxHeartbeats 1600000 in
theorem Nth_yes (n k : Nat) (w : World) (hn : n ≤ 12) (hk : k < fact n) :
    Calls Try.prog 20 #[.int .i64 n, .int .i64 k] w fun e w' => ∃ a' c', e = .returned (.tuple #[.slice a' n c', .int .i64 0]) ∧ Rd w' a' n c' (nthSt n k n).1 ∧ Below w.heap.size w w' := by
  have hf := fact_le n hn
  have hk' : ¬ (fact n : Int) ≤ (k : Int) := by omega
  go_enter Try.func20, Try.ntmps20
  go_wp2_with fail
  refine (fact_any n _ hn).mono ?_
  rintro e w2 ⟨rfl, hw⟩
  subst w2
  go_wp2_with fail
  refine wp_region_any (by kernel_rfl) ?_
  change wpAny _ _ _ _ _ _ _ (World.drew _)
  refine wpAny_take (i := 0) (v := ?_) rfl (by kernel_rfl) (by kernel_rfl) (by kernel_rfl) (fun _ _ _ h => h) (Or.inl ⟨by rfl, ?_⟩) ?_
  rotate_left
  · intro w
    go_simp
    with_reducible rfl
  go_simp
  refine wpAny_take (i := 2) (v := ?_) rfl (by kernel_rfl) (by kernel_rfl) (by kernel_rfl) (fun _ _ _ h => h) (Or.inl ⟨by rfl, ?_⟩) ?_
  rotate_left
  · intro w
    go_simp
    with_reducible rfl
  go_simp
  refine wpAny_ready (rs := [1, 3]) (by kernel_rfl) (by simp) ?_
  refine AllReady.cons rfl (fun K hK => ?_) (AllReady.cons rfl (fun K hK => ?_) AllReady.nil)
  · go_simp
    refine (rising_ex n _ (by omega)).mono ?_
    rintro e w1 ⟨rfl, hL1, hB1⟩
    refine hK _ _ ?_
    clear hK K
    go_simp
    refine wpAny_take (i := 4) (v := ?_) rfl (by kernel_rfl) (by kernel_rfl) (by kernel_rfl) (fun _ _ _ h => h) (Or.inl ⟨by rfl, ?_⟩) ?_
    rotate_left
    · intro w
      go_simp
      with_reducible rfl
    go_simp
    refine wpAny_ready (rs := [3]) (by kernel_rfl) (by simp) ?_
    refine AllReady.cons rfl (fun K hK => ?_) ?_
    rotate_left
    · exact AllReady.nil
    rw [if_pos (by rfl)]
    refine wp_make0 w1 _ _ rfl w.heap.size n rfl rfl (by omega) hB1.size ?_
    intro w2 hO2 hG2
    have HB0 := hide ((((Below.refl w.heap.size w).drew).trans hB1).grown hG2 hB1.size (fun j hj => by simp at hj))
    have HL0 : Hid (w2.ownsRow w.heap.size 3 1 (.slice (some ⟨w.heap.size, 0, none⟩) n n) n ((leftOf n []).map (Value.int .i64))) := hide (by rw [leftOf_nil]; exact hL1.kept hG2 (.inr (by simp [Value.ownBlock])))
    have HO0 := hide hO2
    have hgg : ¬ w.heap.size = w1.heap.size := by have := (hL1.lt w.heap.size rfl).2; omega
    clear hO2 hL1 hB1 hG2
    refine hK _ _ ?_
    clear hK K
    go_simp
    refine wpAny_take (i := 5) (v := ?_) rfl (by kernel_rfl) (by kernel_rfl) (by kernel_rfl) (fun _ _ _ h => h) (Or.inl ⟨by rfl, ?_⟩) ?_
    rotate_left
    · intro w
      go_simp
      with_reducible rfl
    go_simp
    refine wpAny_done (by kernel_rfl) ?_ _
    go_wp2_with fail
    go_loopw [1, 6, 7, 8, 31] (fun kk ways left out ii wr => ∃ i : Nat, i ≤ n ∧ kk = .int .i64 ((nthSt n k i).2 : Nat) ∧ ways = .int .i64 (fact (n - i) : Nat) ∧ left = .slice (some ⟨w.heap.size, 0, none⟩) (n - i) n ∧ out = .slice (some ⟨w1.heap.size, 0, none⟩) i n ∧ ii = .int .i64 i ∧ wr.ownsRow w.heap.size 3 1 (.slice (some ⟨w.heap.size, 0, none⟩) (n - i) n) (n - i) ((leftOf n (nthSt n k i).1).map (Value.int .i64)) ∧ wr.ownsRow w.heap.size 3 1 (.slice (some ⟨w1.heap.size, 0, none⟩) i n) i ((nthSt n k i).1.map (Value.int .i64)) ∧ Below w.heap.size w wr) (fun _ _ _ _ ii _ => n - (intOf ii).toNat)
    case atStart => exact ⟨0, by omega, rfl, rfl, rfl, rfl, rfl, HL0.out, HO0.out, HB0.out⟩
    case round =>
      clear HL0 HO0 HB0
      obtain ⟨i, hi, rfl, rfl, rfl, rfl, rfl, hL, hO, hB⟩ := hrel
      have HLL := hide (leftOf_length n k i hi hk)
      have HNL := hide (nth_length n k i)
      by_cases hil : i < n
      · have hil' : (i : Int) < (n : Int) := by omega
        have HAT := hide (at_lt n k i hil hk)
        have HST : Hid (nthSt n k (i + 1) = nthStep n (nthSt n k i)) := rfl
        have hKb : (nthSt n k i).2 ≤ 479001600 := by
          have h1 := HLL.out.2
          have h2 := fact_le (n - i) (by omega)
          omega
        obtain ⟨⟨out, K⟩, hst⟩ : ∃ s, s = nthSt n k i := ⟨_, rfl⟩
        rw [← hst] at HLL HNL HAT HST hKb hL hO ⊢
        simp only at HLL HNL HAT hKb hL hO ⊢
        have hF := fact_pos (n - 1 - i)
        have hF2 := fact_le (n - 1 - i) (by omega)
        have hG2 := fact_le (n - i) (by omega)
        have hfe : fact (n - i) = fact (n - 1 - i) * (n - i) := by
          rw [show n - i = (n - 1 - i) + 1 by omega]; rfl
        have hd1 : ((fact (n - i) : Nat) : Int) / ((n : Int) - (i : Int)) = ((fact (n - 1 - i) : Nat) : Int) := by
          rw [← Int.natCast_sub (by omega), hfe, ← Int.natCast_ediv, Nat.mul_div_cancel _ (by omega)]
        have hq : (K : Int) / ((fact (n - 1 - i) : Nat) : Int) = ((K / fact (n - 1 - i) : Nat) : Int) := by simp
        have hr : (K : Int) % ((fact (n - 1 - i) : Nat) : Int) = ((K % fact (n - 1 - i) : Nat) : Int) := by simp
        have hal : K / fact (n - 1 - i) < n - i := HAT.out
        have HSTe : Hid (nthSt n k (i + 1) = (out ++ [(leftOf n out).getD (K / fact (n - 1 - i)) 0], K % fact (n - 1 - i))) := hide (by rw [HST.out, nthStep]; simp only [HNL.out])
        have HSN := hide (leftOf_snoc n out (K / fact (n - 1 - i)) (by rw [HLL.out.1]; exact hal))
        have HF1 : Hid (fact (n - (i + 1)) = fact (n - 1 - i)) := hide (by rw [show n - (i + 1) = n - 1 - i by omega])
        generalize K / fact (n - 1 - i) = A at *
        generalize K % fact (n - 1 - i) = K' at *
        have HFE := hide hfe
        clear hfe
        generalize fact (n - 1 - i) = F at *
        generalize fact (n - i) = G at *
        have hF' : ¬ (F : Int) = 0 := by omega
        have r1 := own_cellc hL A hal
        obtain ⟨X, hX⟩ : ∃ X, X = (leftOf n out).getD A 0 := ⟨_, rfl⟩
        rw [← hX] at r1 HSTe HSN
        have HL := hide hL
        have HO := hide hO
        have HB := hide hB
        clear hL hO hB hX HAT HST hst
        go_wp2_with (at_builtin; refine wpList_append_fits_rd _ rfl (.tmp 45) (.tmp 50) rfl w.heap.size w1.heap.size i n out rfl (HO.out.alloc _) _ 1 1 [X] rfl (Rd_one _ _) (by omega) ?_)
        intro w2 hO2 hG2'
        have hb0 : Below w.heap.size w (wr.alloc (.cells #[.int .i64 X] 3)) := HB.out.alloc HB.out.size _
        have HB2 := hide (hb0.grown hG2' hb0.size (fun j hj => by simp at hj; subst hj; exact (HO.out.lt w1.heap.size rfl).1))
        have HL2 := hide ((HL.out.alloc (.cells #[.int .i64 X] 3)).kept hG2' (.inr (by simp [Value.ownBlock]; exact hgg)))
        have HO2 := hide hO2
        clear hO2 hG2' hb0 HO HL HB r1
        have HRF := hide ((Rd.of_own HL2.out).drew.from (k := A + 1) (by omega))
        have HSH := hide (own_shrink HL2.out (k := A) (by omega))
        go_wp2_with fail
        clear hr hd1 hq
        have hAn : A ≤ n := by omega
        have hAn1 : (A : Int) + 1 ≤ ((n - i : Nat) : Int) := by omega
        have hAn2 : 0 ≤ (A : Int) + 1 := by omega
        have hAn3 : ((A : Int) + 1).toNat = A + 1 := by omega
        have hwA : IntKind.i64.wrap ((A : Int) + 1) = (A : Int) + 1 := by rw [IntKind.wrap_i64]; omega
        refine wp_region_any (by kernel_rfl) ?_
        change wpAny _ _ _ _ _ _ _ (World.drew _)
        refine wpAny_take (i := 0) (v := ?_) rfl (by kernel_rfl) (by kernel_rfl) (by kernel_rfl) (fun _ _ _ h => h) (Or.inl ⟨by rfl, ?_⟩) ?_
        rotate_left
        · intro w
          go_simp
          with_reducible rfl
        go_simp
        refine wpAny_take (i := 1) (v := ?_) rfl (by kernel_rfl) (by kernel_rfl) (by kernel_rfl) (fun _ _ _ h => h) (Or.inl ⟨by rfl, ?_⟩) ?_
        rotate_left
        · intro w
          go_simp
          with_reducible rfl
        go_simp
        refine wpAny_take (i := 3) (v := ?_) rfl (by kernel_rfl) (by kernel_rfl) (by kernel_rfl) (fun _ _ _ h => h) (Or.inl ⟨by rfl, ?_⟩) ?_
        rotate_left
        · intro w
          go_simp
          with_reducible rfl
        go_simp
        refine wpAny_take (i := 4) (v := ?_) rfl (by kernel_rfl) (by kernel_rfl) (by kernel_rfl) (fun _ _ _ h => h) (Or.inl ⟨by rfl, ?_⟩) ?_
        rotate_left
        · intro w
          go_simp
          with_reducible rfl
        go_simp
        refine wpAny_take (i := 5) (v := ?_) rfl (by kernel_rfl) (by kernel_rfl) (by kernel_rfl) (fun _ _ _ h => h) (Or.inl ⟨by rfl, ?_⟩) ?_
        rotate_left
        · intro w
          go_simp
          with_reducible rfl
        go_simp
        refine wpAny_take (i := 2) (v := Value.slice (some ⟨w.heap.size, 0, none⟩) A n) rfl (by kernel_rfl) (by kernel_rfl) (by kernel_rfl) (fun _ _ _ h => h) (Or.inl ⟨by rfl, ?_⟩) ?_
        · intro w
          go_simp
        go_simp
        refine wpAny_take (i := 6) (v := Value.slice (if n = A + 1 then some ⟨w.heap.size, 0, none⟩ else some ⟨w.heap.size, A + 1, none⟩) (n - i - (A + 1)) (n - (A + 1))) rfl (by kernel_rfl) (by kernel_rfl) (by kernel_rfl) (fun _ _ _ h => h) (Or.inl ⟨by rfl, ?_⟩) ?_
        · intro w
          go_simp
        go_simp
        obtain ⟨af, haf⟩ : ∃ af, af = (if n = A + 1 then some (⟨w.heap.size, 0, none⟩ : Addr) else some ⟨w.heap.size, A + 1, none⟩) := ⟨_, rfl⟩
        have hRF : Rd w2.drew af (n - i - (A + 1)) (n - (A + 1)) ((leftOf n out).drop (A + 1)) := by
          rw [haf]; simpa [Addr.add_lit] using HRF.out
        have HRF2 := hide hRF
        rw [← haf]
        clear haf hRF HRF
        refine wpAny_ready (rs := [7]) (by kernel_rfl) (by simp) ?_
        refine AllReady.cons rfl (fun K hK => ?_) ?_
        rotate_left
        · exact AllReady.nil
        rw [if_pos (by rfl)]
        refine wp_append_fits_rd _ (.tmp 54) (.tmp 58) rfl w.heap.size w.heap.size A n ((leftOf n out).take A) rfl HSH.out.drew af (n - i - (A + 1)) (n - (A + 1)) ((leftOf n out).drop (A + 1)) rfl HRF2.out (by omega) ?_
        intro w3 hL3 hG3
        have HB3 := hide (HB2.out.drew.grown hG3 HB2.out.size (fun j hj => by simp at hj; subst hj; exact (HL2.out.lt w.heap.size rfl).1))
        have HO3 := hide (HO2.out.drew.kept hG3 (.inr (by simp [Value.ownBlock]; exact fun e => hgg e.symm)))
        have HL3 : Hid (w3.ownsRow w.heap.size 3 1 (.slice (some ⟨w.heap.size, 0, none⟩) (n - (i + 1)) n) (n - (i + 1)) ((leftOf n (out ++ [X])).map (Value.int .i64))) := hide (by
          rw [HSN.out, show A + (n - i - (A + 1)) = n - (i + 1) by omega] at hL3
          exact hL3)
        rw [show A + (n - i - (A + 1)) = n - (i + 1) by omega]
        clear hL3 hG3 HSH HRF2 HL2 HO2 HB2
        refine hK _ _ ?_
        clear hK K
        go_simp
        refine wpAny_take (i := 8) (v := ?_) rfl (by kernel_rfl) (by kernel_rfl) (by kernel_rfl) (fun _ _ _ h => h) (Or.inl ⟨by rfl, ?_⟩) ?_
        rotate_left
        · intro w
          go_simp
          with_reducible rfl
        go_simp
        refine wpAny_done (by kernel_rfl) ?_ _
        go_wp2_with fail
        go_roundw
        case rel => exact ⟨i + 1, by omega, by rw [HSTe.out], by rw [HF1.out], rfl, rfl, by go_num, by rw [HSTe.out]; exact HL3.out, by rw [HSTe.out]; simpa using HO3.out, HB3.out⟩
        case measure => simp [intOf]; omega
      · have hie : i = n := by omega
        subst i
        have hlt' : ¬ (n : Int) < (n : Int) := by omega
        have HR := hide (Rd.of_own hO)
        clear hL hO
        go_wp2_with fail
        go_ret2
        exact ⟨_, _, rfl, HR.out, hB⟩
  · rw [if_pos (by rfl)]
    refine wp_make0 _ _ _ rfl w.heap.size n rfl rfl (by omega) (Nat.le_refl _) ?_
    intro w1 hO1 hG1
    refine hK _ _ ?_
    clear hK K
    go_simp
    refine wpAny_ready (rs := [1]) (by kernel_rfl) (by simp) ?_
    refine AllReady.cons rfl (fun K hK => ?_) ?_
    rotate_left
    · exact AllReady.nil
    go_simp
    refine (rising_ex n _ (by omega)).mono ?_
    rintro e w2 ⟨rfl, hL2, hB2⟩
    have hs1 : w.heap.size ≤ w1.heap.size := hG1.size
    have HB0 := hide ((((Below.refl w.heap.size w).drew).grown hG1 (Nat.le_refl _) (fun j hj => by simp at hj)).trans (hB2.mono hs1))
    have HL0 : Hid (w2.ownsRow w.heap.size 3 1 (.slice (some ⟨w1.heap.size, 0, none⟩) n n) n ((leftOf n []).map (Value.int .i64))) := hide (by rw [leftOf_nil]; exact own_base hL2 hs1)
    have HO0 := hide (own_below hO1 hB2)
    have hgg : ¬ w1.heap.size = w.heap.size := by have := (hO1.lt w.heap.size rfl).2; omega
    clear hO1 hL2 hB2 hG1
    refine hK _ _ ?_
    clear hK K
    go_simp
    refine wpAny_take (i := 4) (v := ?_) rfl (by kernel_rfl) (by kernel_rfl) (by kernel_rfl) (fun _ _ _ h => h) (Or.inl ⟨by rfl, ?_⟩) ?_
    rotate_left
    · intro w
      go_simp
      with_reducible rfl
    go_simp
    refine wpAny_take (i := 5) (v := ?_) rfl (by kernel_rfl) (by kernel_rfl) (by kernel_rfl) (fun _ _ _ h => h) (Or.inl ⟨by rfl, ?_⟩) ?_
    rotate_left
    · intro w
      go_simp
      with_reducible rfl
    go_simp
    refine wpAny_done (by kernel_rfl) ?_ _
    go_wp2_with fail
    go_loopw [1, 6, 7, 8, 31] (fun kk ways left out ii wr => ∃ i : Nat, i ≤ n ∧ kk = .int .i64 ((nthSt n k i).2 : Nat) ∧ ways = .int .i64 (fact (n - i) : Nat) ∧ left = .slice (some ⟨w1.heap.size, 0, none⟩) (n - i) n ∧ out = .slice (some ⟨w.heap.size, 0, none⟩) i n ∧ ii = .int .i64 i ∧ wr.ownsRow w.heap.size 3 1 (.slice (some ⟨w1.heap.size, 0, none⟩) (n - i) n) (n - i) ((leftOf n (nthSt n k i).1).map (Value.int .i64)) ∧ wr.ownsRow w.heap.size 3 1 (.slice (some ⟨w.heap.size, 0, none⟩) i n) i ((nthSt n k i).1.map (Value.int .i64)) ∧ Below w.heap.size w wr) (fun _ _ _ _ ii _ => n - (intOf ii).toNat)
    case atStart => exact ⟨0, by omega, rfl, rfl, rfl, rfl, rfl, HL0.out, HO0.out, HB0.out⟩
    case round =>
      clear HL0 HO0 HB0
      obtain ⟨i, hi, rfl, rfl, rfl, rfl, rfl, hL, hO, hB⟩ := hrel
      have HLL := hide (leftOf_length n k i hi hk)
      have HNL := hide (nth_length n k i)
      by_cases hil : i < n
      · have hil' : (i : Int) < (n : Int) := by omega
        have HAT := hide (at_lt n k i hil hk)
        have HST : Hid (nthSt n k (i + 1) = nthStep n (nthSt n k i)) := rfl
        have hKb : (nthSt n k i).2 ≤ 479001600 := by
          have h1 := HLL.out.2
          have h2 := fact_le (n - i) (by omega)
          omega
        obtain ⟨⟨out, K⟩, hst⟩ : ∃ s, s = nthSt n k i := ⟨_, rfl⟩
        rw [← hst] at HLL HNL HAT HST hKb hL hO ⊢
        simp only at HLL HNL HAT hKb hL hO ⊢
        have hF := fact_pos (n - 1 - i)
        have hF2 := fact_le (n - 1 - i) (by omega)
        have hG2 := fact_le (n - i) (by omega)
        have hfe : fact (n - i) = fact (n - 1 - i) * (n - i) := by
          rw [show n - i = (n - 1 - i) + 1 by omega]; rfl
        have hd1 : ((fact (n - i) : Nat) : Int) / ((n : Int) - (i : Int)) = ((fact (n - 1 - i) : Nat) : Int) := by
          rw [← Int.natCast_sub (by omega), hfe, ← Int.natCast_ediv, Nat.mul_div_cancel _ (by omega)]
        have hq : (K : Int) / ((fact (n - 1 - i) : Nat) : Int) = ((K / fact (n - 1 - i) : Nat) : Int) := by simp
        have hr : (K : Int) % ((fact (n - 1 - i) : Nat) : Int) = ((K % fact (n - 1 - i) : Nat) : Int) := by simp
        have hal : K / fact (n - 1 - i) < n - i := HAT.out
        have HSTe : Hid (nthSt n k (i + 1) = (out ++ [(leftOf n out).getD (K / fact (n - 1 - i)) 0], K % fact (n - 1 - i))) := hide (by rw [HST.out, nthStep]; simp only [HNL.out])
        have HSN := hide (leftOf_snoc n out (K / fact (n - 1 - i)) (by rw [HLL.out.1]; exact hal))
        have HF1 : Hid (fact (n - (i + 1)) = fact (n - 1 - i)) := hide (by rw [show n - (i + 1) = n - 1 - i by omega])
        generalize K / fact (n - 1 - i) = A at *
        generalize K % fact (n - 1 - i) = K' at *
        have HFE := hide hfe
        clear hfe
        generalize fact (n - 1 - i) = F at *
        generalize fact (n - i) = G at *
        have hF' : ¬ (F : Int) = 0 := by omega
        have r1 := own_cellc hL A hal
        obtain ⟨X, hX⟩ : ∃ X, X = (leftOf n out).getD A 0 := ⟨_, rfl⟩
        rw [← hX] at r1 HSTe HSN
        have HL := hide hL
        have HO := hide hO
        have HB := hide hB
        clear hL hO hB hX HAT HST hst
        go_wp2_with (at_builtin; refine wpList_append_fits_rd _ rfl (.tmp 45) (.tmp 50) rfl w.heap.size w.heap.size i n out rfl (HO.out.alloc _) _ 1 1 [X] rfl (Rd_one _ _) (by omega) ?_)
        intro w2 hO2 hG2'
        have hb0 : Below w.heap.size w (wr.alloc (.cells #[.int .i64 X] 3)) := HB.out.alloc HB.out.size _
        have HB2 := hide (hb0.grown hG2' hb0.size (fun j hj => by simp at hj; subst hj; exact (HO.out.lt w.heap.size rfl).1))
        have HL2 := hide ((HL.out.alloc (.cells #[.int .i64 X] 3)).kept hG2' (.inr (by simp [Value.ownBlock]; exact hgg)))
        have HO2 := hide hO2
        clear hO2 hG2' hb0 HO HL HB r1
        have HRF := hide ((Rd.of_own HL2.out).drew.from (k := A + 1) (by omega))
        have HSH := hide (own_shrink HL2.out (k := A) (by omega))
        go_wp2_with fail
        clear hr hd1 hq
        have hAn : A ≤ n := by omega
        have hAn1 : (A : Int) + 1 ≤ ((n - i : Nat) : Int) := by omega
        have hAn2 : 0 ≤ (A : Int) + 1 := by omega
        have hAn3 : ((A : Int) + 1).toNat = A + 1 := by omega
        have hwA : IntKind.i64.wrap ((A : Int) + 1) = (A : Int) + 1 := by rw [IntKind.wrap_i64]; omega
        refine wp_region_any (by kernel_rfl) ?_
        change wpAny _ _ _ _ _ _ _ (World.drew _)
        refine wpAny_take (i := 0) (v := ?_) rfl (by kernel_rfl) (by kernel_rfl) (by kernel_rfl) (fun _ _ _ h => h) (Or.inl ⟨by rfl, ?_⟩) ?_
        rotate_left
        · intro w
          go_simp
          with_reducible rfl
        go_simp
        refine wpAny_take (i := 1) (v := ?_) rfl (by kernel_rfl) (by kernel_rfl) (by kernel_rfl) (fun _ _ _ h => h) (Or.inl ⟨by rfl, ?_⟩) ?_
        rotate_left
        · intro w
          go_simp
          with_reducible rfl
        go_simp
        refine wpAny_take (i := 3) (v := ?_) rfl (by kernel_rfl) (by kernel_rfl) (by kernel_rfl) (fun _ _ _ h => h) (Or.inl ⟨by rfl, ?_⟩) ?_
        rotate_left
        · intro w
          go_simp
          with_reducible rfl
        go_simp
        refine wpAny_take (i := 4) (v := ?_) rfl (by kernel_rfl) (by kernel_rfl) (by kernel_rfl) (fun _ _ _ h => h) (Or.inl ⟨by rfl, ?_⟩) ?_
        rotate_left
        · intro w
          go_simp
          with_reducible rfl
        go_simp
        refine wpAny_take (i := 5) (v := ?_) rfl (by kernel_rfl) (by kernel_rfl) (by kernel_rfl) (fun _ _ _ h => h) (Or.inl ⟨by rfl, ?_⟩) ?_
        rotate_left
        · intro w
          go_simp
          with_reducible rfl
        go_simp
        refine wpAny_take (i := 2) (v := Value.slice (some ⟨w1.heap.size, 0, none⟩) A n) rfl (by kernel_rfl) (by kernel_rfl) (by kernel_rfl) (fun _ _ _ h => h) (Or.inl ⟨by rfl, ?_⟩) ?_
        · intro w
          go_simp
        go_simp
        refine wpAny_take (i := 6) (v := Value.slice (if n = A + 1 then some ⟨w1.heap.size, 0, none⟩ else some ⟨w1.heap.size, A + 1, none⟩) (n - i - (A + 1)) (n - (A + 1))) rfl (by kernel_rfl) (by kernel_rfl) (by kernel_rfl) (fun _ _ _ h => h) (Or.inl ⟨by rfl, ?_⟩) ?_
        · intro w
          go_simp
        go_simp
        obtain ⟨af, haf⟩ : ∃ af, af = (if n = A + 1 then some (⟨w1.heap.size, 0, none⟩ : Addr) else some ⟨w1.heap.size, A + 1, none⟩) := ⟨_, rfl⟩
        have hRF : Rd w2.drew af (n - i - (A + 1)) (n - (A + 1)) ((leftOf n out).drop (A + 1)) := by
          rw [haf]; simpa [Addr.add_lit] using HRF.out
        have HRF2 := hide hRF
        rw [← haf]
        clear haf hRF HRF
        refine wpAny_ready (rs := [7]) (by kernel_rfl) (by simp) ?_
        refine AllReady.cons rfl (fun K hK => ?_) ?_
        rotate_left
        · exact AllReady.nil
        rw [if_pos (by rfl)]
        refine wp_append_fits_rd _ (.tmp 54) (.tmp 58) rfl w.heap.size w1.heap.size A n ((leftOf n out).take A) rfl HSH.out.drew af (n - i - (A + 1)) (n - (A + 1)) ((leftOf n out).drop (A + 1)) rfl HRF2.out (by omega) ?_
        intro w3 hL3 hG3
        have HB3 := hide (HB2.out.drew.grown hG3 HB2.out.size (fun j hj => by simp at hj; subst hj; exact (HL2.out.lt w1.heap.size rfl).1))
        have HO3 := hide (HO2.out.drew.kept hG3 (.inr (by simp [Value.ownBlock]; exact fun e => hgg e.symm)))
        have HL3 : Hid (w3.ownsRow w.heap.size 3 1 (.slice (some ⟨w1.heap.size, 0, none⟩) (n - (i + 1)) n) (n - (i + 1)) ((leftOf n (out ++ [X])).map (Value.int .i64))) := hide (by
          rw [HSN.out, show A + (n - i - (A + 1)) = n - (i + 1) by omega] at hL3
          exact hL3)
        rw [show A + (n - i - (A + 1)) = n - (i + 1) by omega]
        clear hL3 hG3 HSH HRF2 HL2 HO2 HB2
        refine hK _ _ ?_
        clear hK K
        go_simp
        refine wpAny_take (i := 8) (v := ?_) rfl (by kernel_rfl) (by kernel_rfl) (by kernel_rfl) (fun _ _ _ h => h) (Or.inl ⟨by rfl, ?_⟩) ?_
        rotate_left
        · intro w
          go_simp
          with_reducible rfl
        go_simp
        refine wpAny_done (by kernel_rfl) ?_ _
        go_wp2_with fail
        go_roundw
        case rel => exact ⟨i + 1, by omega, by rw [HSTe.out], by rw [HF1.out], rfl, rfl, by go_num, by rw [HSTe.out]; exact HL3.out, by rw [HSTe.out]; simpa using HO3.out, HB3.out⟩
        case measure => simp [intOf]; omega
      · have hie : i = n := by omega
        subst i
        have hlt' : ¬ (n : Int) < (n : Int) := by omega
        have HR := hide (Rd.of_own hO)
        clear hL hO
        go_wp2_with fail
        go_ret2
        exact ⟨_, _, rfl, HR.out, hB⟩

end Go.Proofs.Ytdhacmcdbpojlaa
