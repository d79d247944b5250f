/-
  What the document's own RiffleOrder answers, for every even n from 0 to 104: how often the riffle must be done until all is back.
-/
import Derived.Test.YtdipbbcggccgcaaOrder
import Derived.Test.YtdipbbcggccgcaaRef
namespace Go.Proofs.Ytdipbbcggccgcaa
open Go.RowKit

/-- What RiffleOrder has gathered ahead of place i. -/
def allAt (n : Nat) (b : Bool) (i : Nat) : Nat := if i = 0 ∨ (b = false ∧ i = 1) then 1 else KK n b

theorem allAt_step (n : Nat) (b : Bool) (hev : n % 2 = 0) (hn : n ≤ 104) (i : Nat) (hi : i < n) :
    (allAt n b i % cyc n b i = 0 ∧ allAt n b (i + 1) = allAt n b i) ∨ (allAt n b i = 1 ∧ 1 < cyc n b i ∧ allAt n b (i + 1) = cyc n b i) := by
  have T := tab n b hev hn
  have h0 : ¬ n = 0 := by omega
  have ek : KK n b = cyc n b (p0 b) := by simp [KK, h0]
  have hd := T.dvd i hi
  have hc := T.cyc1 i hi
  have h1 := T.one
  unfold allAt
  cases b with
  | true =>
    simp only [Bool.true_eq_false, false_and, or_false] at ek ⊢
    by_cases hi0 : i = 0
    · subst hi0
      have e : KK n true = cyc n true 0 := by rw [ek]; rfl
      rw [if_pos rfl, if_neg (by omega), e]
      rcases Nat.lt_or_ge 1 (cyc n true 0) with h | h
      · exact .inr ⟨rfl, h, rfl⟩
      · have e1 : cyc n true 0 = 1 := by omega
        rw [e1]; exact .inl ⟨rfl, rfl⟩
    · rw [if_neg hi0, if_neg (by omega)]
      exact .inl ⟨hd, rfl⟩
  | false =>
    simp only [true_and] at ek ⊢
    by_cases hi0 : i = 0
    · subst hi0
      have e1 := T.zero rfl hi
      rw [e1]
      exact .inl ⟨by simp, by simp⟩
    · by_cases hi1 : i = 1
      · subst hi1
        have e : KK n false = cyc n false 1 := by rw [ek]; rfl
        rw [if_pos (by omega), if_neg (by omega), e]
        rcases Nat.lt_or_ge 1 (cyc n false 1) with h | h
        · exact .inr ⟨rfl, h, rfl⟩
        · have e1 : cyc n false 1 = 1 := by omega
          rw [e1]; exact .inl ⟨rfl, rfl⟩
      · rw [if_neg (by omega), if_neg (by omega)]
        exact .inl ⟨hd, rfl⟩

theorem allAt_end (n : Nat) (b : Bool) (hev : n % 2 = 0) : allAt n b n = KK n b := by
  unfold allAt
  by_cases h0 : n = 0
  · subst h0; simp [KK]
  · rw [if_neg (by omega)]

theorem allAt_le (n : Nat) (b : Bool) (hev : n % 2 = 0) (hn : n ≤ 104) (i : Nat) : 1 ≤ allAt n b i ∧ allAt n b i ≤ 104 := by
  have T := tab n b hev hn
  have := T.one
  have := T.le
  unfold allAt; split <;> omega

theorem cyc_le (n : Nat) (b : Bool) (hev : n % 2 = 0) (hn : n ≤ 104) (i : Nat) (hi : i < n) : 1 ≤ cyc n b i ∧ cyc n b i ≤ 104 := by
  have T := tab n b hev hn
  refine ⟨T.cyc1 i hi, ?_⟩
  have h1 := Nat.le_of_dvd (by have := T.one; omega) (Nat.dvd_of_mod_eq_zero (T.dvd i hi))
  have := T.le
  omega

theorem ret_nat {a b : Nat} (h : a = b) : Ending.returned (.int .i64 (a : Int)) = .returned (.int .i64 (b : Int)) := by rw [h]

set_option maxHeartbeats 1000000 in
theorem RiffleOrder_any (n : Nat) (b : Bool) (w : World) (hev : n % 2 = 0) (hn : n ≤ 104) :
    Calls Try.prog 19 #[.int .i64 n, .bool b] w fun e w' => e = .returned (.int .i64 (KK n b)) ∧ Below w.heap.size w w' := by
  obtain ⟨i0, hi, hz0, hz1, hz2⟩ := info_parts Try.info3
  have hmm : n ≤ maxLen := by unfold maxLen; omega
  have hby : i0.bytes * n ≤ 281474976710656 := by rw [hz2]; omega
  have HEND := hide (allAt_end n b hev)
  go_enter Try.func19, Try.ntmps19
  go_wp2_with (at_make; refine wpList_make_full w rfl _ _ 30 rfl w.heap.size 3 i0 (.int .i64 0) 1 Try.underlying30 hi hz0 hz1 _ _ _ _ n rfl rfl (by omega) (by omega) hby hmm (Nat.le_refl _) ?_)
  intro w1 hown hgrow
  have hb1 : Below w.heap.size w w1 := (Below.refl _ _).grown hgrow (Nat.le_refl _) (fun k hk => by simp at hk)
  rw [made_ints] at hown
  clear hgrow
  go_wp2_with fail
  go_loopw [6] (fun i wr => ∃ (k : Nat) (L : List Int), k ≤ n ∧ i = .int .i64 k ∧ wr.ownsRow w.heap.size 3 1 (.slice (some ⟨w.heap.size, 0, none⟩) n n) n (L.map (Value.int .i64)) ∧ Below w.heap.size w wr ∧ Hid (∀ p, p < k → L.getD p 0 = (p : Int))) (fun i _ => n - (intOf i).toNat)
  case atStart => exact ⟨0, _, by omega, rfl, hown, hb1, fun p hp => absurd hp (by omega)⟩
  case round =>
    clear hown hb1
    obtain ⟨k, L, hk, rfl, hown, hbel, HL⟩ := hrel
    have hLl : Hid (L.length = n) := hide (by simpa using hown.1)
    by_cases hlt : k < n
    · obtain ⟨c1, f1⟩ := own_cell hown k hlt
      have HO := hide (own_set hown k (k : Int))
      have HB := hide hbel
      have HS := hide (ident_step n L k hLl.out hlt HL.out)
      clear hown hbel
      go_wp2_with fail
      go_roundw
      case rel => exact ⟨k + 1, _, by omega, by go_num, HO.out, HB.out.setCell (Nat.le_refl _) _, HS.out⟩
      case measure => simp [intOf]; omega
    · have hkn : k = n := by omega
      subst k
      have hlt' : ¬ (n : Int) < (n : Int) := by omega
      have eL := eq_ident n L hLl.out HL.out
      subst eL
      go_wp2_with fail
      refine (RiffleOf_any _ n _ (ident n) b _ (Rd.of_own hown) hev hn).mono ?_
      rintro e w2 ⟨a2, c2, rfl, hR2, hB2⟩
      have HB := hide (hbel.trans (hB2.mono hbel.size))
      have HR : Hid (Rd w2 a2 n c2 (R n b 1)) := hR2
      have hc2 := hR2.cap
      have hm2 := hR2.max
      unfold maxLen at hm2
      clear hR2 hB2 hown hbel HL hLl
      go_wp2_with fail
      go_loopw [8, 9] (fun al i wr => ∃ (k q : Nat), k ≤ n ∧ i = .int .i64 k ∧ al = .int .i64 (allAt n b k : Nat) ∧ wr = w2.drewN q) (fun _ i _ => n - (intOf i).toNat)
      case atStart => exact ⟨0, 0, by omega, rfl, rfl, rfl⟩
      case round =>
        obtain ⟨i, q, hin, rfl, rfl, rfl⟩ := hrel
        by_cases hil : i < n
        · obtain ⟨bb, off, ha2, hc⟩ := HR.out.cells (by omega)
          have HC := hide hc
          have r1 := hc i hil
          have HG : Hid (∀ p, p < n → (R n b 1).getD p 0 = (src n b p : Nat)) := hide (fun p hp => R_get b hev 1 p hp)
          rw [HG.out i hil] at r1
          subst ha2
          clear hc
          have hCY := cyc_spec n b i (by have := (cyc_le n b hev hn i hil).1; omega)
          have hcl := cyc_le n b hev hn i hil
          have hal := allAt_le n b hev hn i
          have hst := allAt_step n b hev hn i hil
          have HLT := hide (it_lt b hev hil)
          obtain ⟨C, hC⟩ : ∃ C, C = cyc n b i := ⟨_, rfl⟩
          rw [← hC] at hCY hcl hst
          obtain ⟨hC1, hCY, hNE⟩ := hCY
          have HCY := hide hCY
          have HNE := hide hNE
          obtain ⟨A, hA⟩ : ∃ A, A = allAt n b i := ⟨_, rfl⟩
          rw [← hA] at hal hst ⊢
          obtain ⟨hal1, hal2⟩ := hal
          obtain ⟨_, hcl2⟩ := hcl
          clear hCY hNE hA hC
          rcases hst with ⟨hs1, hs2⟩ | ⟨hs1, hs2, hs3⟩
          · have HS2 := hide hs2
            have hmod : ((A : Int) % (C : Int) != 0) = false := by
              have : ((A % C : Nat) : Int) = 0 := by rw [hs1]; rfl
              rw [Int.natCast_emod] at this
              rw [this]; rfl
            clear hs1 hs2
            go_wp2_with fail
            go_quiet (fail)
            go_wp2_with fail
            go_loop [10, 11] (fun kk x => ∃ j : Nat, 1 ≤ j ∧ j ≤ C ∧ kk = .int .i64 j ∧ x = .int .i64 (it n b j i : Nat)) (fun kk _ => C - (intOf kk).toNat)
            case atStart => exact ⟨1, by omega, by omega, rfl, rfl⟩
            case round =>
              obtain ⟨j, hj1, hj2, rfl, rfl⟩ := hrel
              have hx1 := HLT.out j
              by_cases hjl : j < C
              · have hne := HNE.out j hj1 hjl
                have hne' : ((it n b j i : Nat) : Int) ≠ (i : Int) := by omega
                have hbne : (((it n b j i : Nat) : Int) != (i : Int)) = true := by rw [bne_iff_ne]; exact hne'
                have r2 := HC.out (it n b j i) hx1
                have r3 : (R n b 1).getD (it n b j i) 0 = (it n b (j + 1) i : Nat) := HG.out _ hx1
                rw [r3] at r2
                obtain ⟨y, hy⟩ : ∃ y, y = it n b j i := ⟨_, rfl⟩
                obtain ⟨y', hy'⟩ : ∃ y', y' = it n b (j + 1) i := ⟨_, rfl⟩
                rw [← hy] at hx1 hbne r2 ⊢
                rw [← hy'] at r2
                have HY' := hide hy'
                clear hne hne' r3 hy hy'
                go_wp2_with fail
                go_round
                case rel => exact ⟨j + 1, by omega, by omega, by go_num, by rw [← HY'.out]⟩
                case measure => simp [intOf]; omega
              · obtain rfl : j = C := by omega
                have hbne : (((it n b j i : Nat) : Int) != (i : Int)) = false := by rw [HCY.out]; simp
                go_wp2_with fail
                refine wp_loop_rounds 1 ?_
                rw [rounds_succ]
                go_wp2_with fail
                go_roundw
                case rel => exact ⟨i + 1, _, by omega, by go_num, by rw [HS2.out], rfl⟩
                case measure => simp [intOf]; omega
          · have HS3 := hide hs3
            subst hs1
            clear hs3
            go_wp2_with fail
            go_quiet (fail)
            go_wp2_with fail
            go_loop [10, 11] (fun kk x => ∃ j : Nat, 1 ≤ j ∧ j ≤ C ∧ kk = .int .i64 j ∧ x = .int .i64 (it n b j i : Nat)) (fun kk _ => C - (intOf kk).toNat)
            case atStart => exact ⟨1, by omega, by omega, rfl, rfl⟩
            case round =>
              obtain ⟨j, hj1, hj2, rfl, rfl⟩ := hrel
              have hx1 := HLT.out j
              by_cases hjl : j < C
              · have hne := HNE.out j hj1 hjl
                have hne' : ((it n b j i : Nat) : Int) ≠ (i : Int) := by omega
                have hbne : (((it n b j i : Nat) : Int) != (i : Int)) = true := by rw [bne_iff_ne]; exact hne'
                have r2 := HC.out (it n b j i) hx1
                have r3 : (R n b 1).getD (it n b j i) 0 = (it n b (j + 1) i : Nat) := HG.out _ hx1
                rw [r3] at r2
                obtain ⟨y, hy⟩ : ∃ y, y = it n b j i := ⟨_, rfl⟩
                obtain ⟨y', hy'⟩ : ∃ y', y' = it n b (j + 1) i := ⟨_, rfl⟩
                rw [← hy] at hx1 hbne r2 ⊢
                rw [← hy'] at r2
                have HY' := hide hy'
                clear hne hne' r3 hy hy'
                go_wp2_with fail
                go_round
                case rel => exact ⟨j + 1, by omega, by omega, by go_num, by rw [← HY'.out]⟩
                case measure => simp [intOf]; omega
              · obtain rfl : j = C := by omega
                have hbne : (((it n b j i : Nat) : Int) != (i : Int)) = false := by rw [HCY.out]; simp
                go_wp2_with fail
                go_loop [12] (fun mm => ∃ t : Nat, 1 ≤ t ∧ t ≤ j ∧ mm = .int .i64 t) (fun mm => j - (intOf mm).toNat)
                case atStart => exact ⟨1, by omega, by omega, rfl⟩
                case round =>
                  obtain ⟨t, ht1, ht2, rfl⟩ := hrel
                  by_cases htl : t < j
                  · have hmod : ((t : Int) % (j : Int) != 0) = true := by
                      rw [bne_iff_ne, Int.emod_eq_of_lt (by omega) (by omega)]; omega
                    go_wp2_with fail
                    go_round
                    case rel => exact ⟨t + 1, by omega, by omega, by go_num⟩
                    case measure => simp [intOf]; omega
                  · have htj : t = j := by omega
                    subst t
                    have hmod : ((j : Int) % (j : Int) != 0) = false := by simp
                    go_wp2_with fail
                    go_roundw
                    case rel => exact ⟨i + 1, _, by omega, by go_num, by rw [HS3.out], rfl⟩
                    case measure => simp [intOf]; omega
        · have hie : i = n := by omega
          subst i
          have hlt2 : ¬ (n : Int) < (n : Int) := by omega
          go_wp2_with fail
          go_ret
          refine ⟨ret_nat ?_, below_drewN HB.out _⟩
          exact HEND.out

end Go.Proofs.Ytdipbbcggccgcaa
