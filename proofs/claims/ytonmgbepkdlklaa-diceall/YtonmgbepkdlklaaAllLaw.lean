/-
  The law DiceAll, walked. No conditions beyond those that each theorem bears.
-/
import Derived.Test.YtonmgbepkdlklaaAllMath
namespace Go.Proofs.Ytonmgbepkdlklaa
open Go.RowKit

set_option maxRecDepth 100000 in
set_option maxHeartbeats 16000000 in
theorem law6_any (a0 : Option Addr) (n0 c0 : Nat) (z0 : List Int) (many sides : Int) (w : World) (h0 : Rd w a0 n0 c0 z0) (hz : ∀ z ∈ z0, -9223372036854775808 ≤ z ∧ z ≤ 9223372036854775807)
    (hm1 : -9223372036854775808 ≤ many) (hm2 : many ≤ 9223372036854775807) (hs1 : -9223372036854775808 ≤ sides) (hs2 : sides ≤ 9223372036854775807) :
    Calls Try.prog 6 #[.slice a0 n0 c0, .int .i64 many, .int .i64 sides] w fun e w' => e = .returned (.bool true) ∧ Below w.heap.size w w' := by
  have m0 := h0.max
  have p0 := h0.cap
  unfold maxLen at m0
  have H0 := hide h0
  have HZ := hide hz
  clear h0 hz
  go_enter Try.func6, Try.ntmps6
  go_wp2_with fail
  go_loopw [7, 8, 9] (fun u t v wr => ∃ (k PA : Nat) (D : List Nat), k ≤ n0 ∧ k ≤ 6 ∧ v = .int .i64 k ∧ t = .int .i64 PA ∧ Hid (prod D = PA) ∧ Hid (∀ d ∈ D, 1 ≤ d ∧ d ≤ 20) ∧ Hid (D.length = k) ∧ Hid (wr.ownsRow w.heap.size 3 1 u k ((toI D).map (Value.int .i64))) ∧ Hid (Below w.heap.size w wr)) (fun _ _ v _ => 6 - (intOf v).toNat)
  case atStart => exact ⟨0, 1, [], by omega, by omega, rfl, rfl, hide rfl, hide (fun d hd => by simp at hd), hide rfl, hide (World.ownsRow_nil _ _ _ _), hide (Below.refl _ _)⟩
  case round =>
    rename_i uu tt
    obtain ⟨k, PA, D, hk, hk6, rfl, rfl, HPA, HDB, HDL, HO, HB⟩ := hrel
    have hPb : PA ≤ 64000000 := by
      rw [← HPA.out]
      refine Nat.le_trans (prod_le D 20 (fun d hd => (HDB.out d hd).2)) ?_
      rw [HDL.out]
      exact Nat.le_trans (Nat.pow_le_pow_right (by omega) hk6) (by omega)
    by_cases hgo : k < n0 ∧ k < 6
    · have g1 : (k : Int) < (n0 : Int) := by omega
      have g1' : decide ((k : Int) < (n0 : Int)) = true := by simpa using hgo.1
      have g2 : (k : Int) < 6 := by omega
      have hR := H0.out.mono HB.out
      obtain ⟨ba, oa, ha, hc⟩ := hR.cells (by omega)
      subst ha
      have r1 := hc k hgo.1
      obtain ⟨z, hzz⟩ : ∃ z, z0.getD k 0 = z := ⟨_, rfl⟩
      rw [hzz] at r1
      have hzb := HZ.out z (by
        have hk' : k < z0.length := by rw [H0.out.len]; exact hgo.1
        rw [← hzz]; simp [List.getD, hk'])
      clear hc hR hzz hgo
      go_wp2_with fail
      refine (picked_any z 20 _ hzb.1 hzb.2 (by omega) (by omega)).mono ?_
      rintro e w1 ⟨rfl, hw1⟩
      subst w1
      have hp := pk_lt z 20 (by omega)
      obtain ⟨s, hs⟩ : ∃ s, 1 + pk z 20 = s := ⟨_, rfl⟩
      have hse : (1 : Int) + ((pk z 20 : Nat) : Int) = (s : Int) := by omega
      have hsb1 : 1 ≤ s := by omega
      have hsb2 : s ≤ 20 := by omega
      generalize pk z 20 = PZ at *
      clear hs r1
      have HO2 := hide (own_later HO.out ((Below.refl _ wr).alloc (Nat.le_refl _) (.cells #[.int .i64 (s : Int)] 3)))
      have HR2 := hide (one_blk wr s)
      have HB2' := hide (HB.out.alloc HB.out.size (.cells #[.int .i64 (s : Int)] 3))
      obtain ⟨PB, hPB⟩ : ∃ PB, PA * s = PB := ⟨_, rfl⟩
      have hPBe : (PA : Int) * (s : Int) = (PB : Int) := by rw [← hPB]; simp
      have hPBb : PB ≤ 1280000000 := by rw [← hPB]; exact Nat.le_trans (Nat.mul_le_mul hPb hsb2) (by omega)
      have HPB : Hid (prod (D ++ [s]) = PB) := hide (by rw [prod_append, HPA.out, ← hPB]; simp [prod])
      clear hPB
      go_wp2_with (at_builtin; refine wpList_append_rd _ rfl _ _ rfl w.heap.size _ k (toI D) rfl HO2.out _ 1 1 [(s : Int)] rfl HR2.out (by omega) HB2'.out.size ?_)
      intro v5 w5 hO5 hG5
      have HO5 : Hid (w5.ownsRow w.heap.size 3 1 v5 (k + 1) ((toI (D ++ [s])).map (Value.int .i64))) := hide (by
        rw [toI_append, toI_one, List.map_append]
        exact hO5)
      have HB5 := hide (HB2'.out.grown hG5 HB2'.out.size (fun g hg => own_base HO2.out hg))
      have HDB5 : Hid (∀ d ∈ D ++ [s], 1 ≤ d ∧ d ≤ 20) := hide (fun d hd => by
        rcases List.mem_append.1 hd with hd | hd
        · exact HDB.out d hd
        · rw [List.mem_singleton.1 hd]; omega)
      have HDL5 : Hid ((D ++ [s]).length = k + 1) := hide (by rw [List.length_append, HDL.out]; rfl)
      clear hO5 hG5
      go_wp2_with fail
      go_roundw
      case rel => exact ⟨k + 1, PB, D ++ [s], by omega, by omega, by go_num, rfl, HPB, HDB5, HDL5, HO5, HB5⟩
      case measure => simp [intOf]; omega
    · have hex : ((k : Int) < (n0 : Int) ∧ ¬ (k : Int) < 6) ∨ ¬ (k : Int) < (n0 : Int) := by omega
      obtain ⟨a7, c7, hv7⟩ := own_slice HO.out
      subst hv7
      have HRL := hide (Rd.of_own HO.out)
      have hc7 := HRL.out.max
      unfold maxLen at hc7
      clear hgo
      by_cases hk0 : k = 0
      · subst hk0
        have g1 : ¬ (0 : Int) < (n0 : Int) := by omega
        have g1d : decide ((0 : Int) < (n0 : Int)) = false := by simpa using g1
        have HRL2 := hide (one_blk wr 6)
        have HB6' : Hid (Below w.heap.size w (wr.alloc (.cells #[.int .i64 6] 3))) := hide (HB.out.alloc HB.out.size _)
        clear hex HRL HPA HDB HDL HO hPb
        obtain ⟨D, hD⟩ : ∃ D : List Nat, D = [6] := ⟨_, rfl⟩
        have HPA : Hid (prod D = 6) := hide (by rw [hD]; rfl)
        have HDB : Hid (∀ d ∈ D, 1 ≤ d ∧ d ≤ 20) := hide (fun d hd => by rw [hD, List.mem_singleton] at hd; omega)
        have HDL : Hid (D.length = 1) := hide (by rw [hD]; rfl)
        have hD1 : 1 ≤ 1 := by omega
        have hD6 : 1 ≤ 10 := by omega
        have HRL : Hid (Rd (wr.alloc (.cells #[.int .i64 6] 3)) (some ⟨wr.heap.size, 0, none⟩) 1 1 (toI D)) := hide (by rw [hD]; exact HRL2.out)
        clear hD HRL2
        go_wp2_with fail
        refine (Sums_yes _ 1 _ D _ HRL.out hD1 hD6 HDB.out).mono ?_
        rintro e w2 ⟨b2, rfl, hT2, -, hB2⟩
        have HB2 := hide (HB6'.out.trans (hB2.mono HB6'.out.size))
        have HT2 := hide hT2
        have hlT : (wl D.reverse).length ≤ 1000 := by
          rw [wl_length, List.sum_reverse, List.length_reverse]
          have := sum_le D 20 (fun d hd => (HDB.out d hd).2)
          have := HDL.out
          omega
        obtain ⟨TL, hTL⟩ : ∃ TL, (wl D.reverse).length = TL := ⟨_, rfl⟩
        rw [hTL] at hlT
        rw [hTL]
        have HPAL : Hid (∀ i, i < TL → (wl D.reverse).getD i 0 = (wl D.reverse).getD (TL - 1 - i) 0) := hide (fun i hi => by
          have := wl_pal D.reverse (fun d hd => (HDB.out d (List.mem_reverse.1 hd)).1) i (by rw [hTL]; exact hi)
          rw [hTL] at this
          exact this)
        have HTOT : Hid (sumTo (fun j => (wl D.reverse).getD j 0) TL = 6) := hide (by
          have := wl_total D.reverse (fun d hd => (HDB.out d (List.mem_reverse.1 hd)).1)
          rw [hTL, prod_reverse, HPA.out] at this
          exact this)
        have HTL := hide hTL
        clear hT2 hB2 hTL
        go_wp2_with fail
        go_loopw [13, 14] (fun u v wr => ∃ (i S q : Nat), i ≤ TL ∧ v = .int .i64 i ∧ u = .int .i64 S ∧ wr = w2.drewN q ∧ Hid (S = sumTo (fun j => (wl D.reverse).getD j 0) i)) (fun _ v _ => TL - (intOf v).toNat)
        case atStart => exact ⟨0, 0, 0, by omega, rfl, rfl, rfl, hide rfl⟩
        case round =>
          obtain ⟨i, S, q, hi, rfl, rfl, rfl, HS⟩ := hrel
          by_cases hlt : i < TL
          · have hlt' : (i : Int) < (TL : Int) := by omega
            have r1 := HT2.out.cell (i := i) (by rw [HTL.out]; exact hlt)
            obtain ⟨m, hm⟩ : ∃ m, TL - 1 - i = m := ⟨_, rfl⟩
            have hme : (TL : Int) - 1 - (i : Int) = (m : Int) := by omega
            have hmt : m < TL := by omega
            have hmt' : (m : Int) < (TL : Int) := by omega
            have r2 := HT2.out.cell (i := m) (by rw [HTL.out]; exact hmt)
            have hpal := HPAL.out i hlt
            rw [hm] at hpal
            rw [← hpal] at r2
            obtain ⟨y, hy⟩ : ∃ y, (wl D.reverse).getD i 0 = y := ⟨_, rfl⟩
            rw [hy] at r1 r2
            have hSy : S + y ≤ 64000000 := by
              have h1 := HTOT.out
              have h2 := sumTo_mono (g := fun j => (wl D.reverse).getD j 0) (show i + 1 ≤ TL by omega)
              rw [sumTo, ← HS.out, h1] at h2
              have h3 : S + (wl D.reverse).getD i 0 ≤ 6 := h2
              rw [hy] at h3
              omega
            obtain ⟨S2, hS2⟩ : ∃ S2, S + y = S2 := ⟨_, rfl⟩
            have hS2e : (S : Int) + (y : Int) = (S2 : Int) := by omega
            have HS2 : Hid (S2 = sumTo (fun j => (wl D.reverse).getD j 0) (i + 1)) := hide (by
              show S2 = sumTo (fun j => (wl D.reverse).getD j 0) i + (wl D.reverse).getD i 0
              rw [← HS.out, hy, hS2])
            have r1' : w2.cell? ⟨b2, i, none⟩ = some (.int .i64 (y : Int)) := r1
            have r2' : w2.cell? ⟨b2, m, none⟩ = some (.int .i64 (y : Int)) := r2
            have hyy : ((y : Int) != (y : Int)) = false := by simp
            clear hm hpal hy hS2 r1 r2
            go_wp2_with fail
            go_quiet (fail)
            go_wp2_with fail
            go_roundw
            case rel => exact ⟨i + 1, S2, _, by omega, by go_num, rfl, rfl, HS2⟩
            case measure => simp [intOf]; omega
          · have hlt' : ¬ (i : Int) < (TL : Int) := by omega
            obtain rfl : i = TL := by omega
            have hSP : S = 6 := by rw [HS.out, HTOT.out]
            have hne : ((S : Int) != (6 : Int)) = false := by rw [hSP]; rfl
            clear hSP
            have HBq := hide (HB2.out.trans (drewN_below _ w2 q))
            generalize w2.drewN q = w3 at *
            go_wp2_with fail
            refine (picked_any many 4 _ hm1 hm2 (by omega) (by omega)).mono ?_
            rintro e w4 ⟨rfl, hw4⟩
            subst w4
            have hp1 := pk_lt many 4 (by omega)
            obtain ⟨n, hn⟩ : ∃ n, 1 + pk many 4 = n := ⟨_, rfl⟩
            have hne1 : (1 : Int) + ((pk many 4 : Nat) : Int) = (n : Int) := by omega
            have hn1 : 1 ≤ n := by omega
            have hn4 : n ≤ 4 := by omega
            generalize pk many 4 = P4 at *
            go_wp2_with fail
            refine (picked_any sides 8 _ hs1 hs2 (by omega) (by omega)).mono ?_
            rintro e w4 ⟨rfl, hw4⟩
            subst w4
            have hp2 := pk_lt sides 8 (by omega)
            obtain ⟨k, hk⟩ : ∃ k, 1 + pk sides 8 = k := ⟨_, rfl⟩
            have hke1 : (1 : Int) + ((pk sides 8 : Nat) : Int) = (k : Int) := by omega
            have hk1 : 1 ≤ k := by omega
            have hk8 : k ≤ 8 := by omega
            generalize pk sides 8 = P8 at *
            clear hn hk
            go_wp2_with fail
            go_loopw [17, 18] (fun u v wr => ∃ (j : Nat), j ≤ n ∧ v = .int .i64 j ∧ Hid (wr.ownsRow w.heap.size 3 1 u j ((toI (List.replicate j k)).map (Value.int .i64))) ∧ Hid (Below w.heap.size w wr)) (fun _ v _ => n - (intOf v).toNat)
            case atStart => exact ⟨0, by omega, rfl, hide (World.ownsRow_nil _ _ _ _), HBq⟩
            case round =>
              rename_i uu
              obtain ⟨j, hj, rfl, HO, HBr⟩ := hrel
              by_cases hjn : j < n
              · have hjn' : (j : Int) < (n : Int) := by omega
                have HO2 := hide (own_later HO.out ((Below.refl _ wr).alloc (Nat.le_refl _) (.cells #[.int .i64 (k : Int)] 3)))
                have HR2 := hide (one_blk wr k)
                have HB2' := hide (HBr.out.alloc HBr.out.size (.cells #[.int .i64 (k : Int)] 3))
                go_wp2_with (at_builtin; refine wpList_append_rd _ rfl _ _ rfl w.heap.size _ j (toI (List.replicate j k)) rfl HO2.out _ 1 1 [(k : Int)] rfl HR2.out (by omega) HB2'.out.size ?_)
                intro v5 w5 hO5 hG5
                have HO5 : Hid (w5.ownsRow w.heap.size 3 1 v5 (j + 1) ((toI (List.replicate (j + 1) k)).map (Value.int .i64))) := hide (by
                  rw [show List.replicate (j + 1) k = List.replicate j k ++ [k] from List.replicate_succ', toI_append, toI_one, List.map_append]
                  exact hO5)
                have HB5 := hide (HB2'.out.grown hG5 HB2'.out.size (fun g hg => own_base HO2.out hg))
                clear hO5 hG5
                go_wp2_with fail
                go_roundw
                case rel => exact ⟨j + 1, by omega, by go_num, HO5, HB5⟩
                case measure => simp [intOf]; omega
              · have hjn' : ¬ (j : Int) < (n : Int) := by omega
                obtain rfl : j = n := by omega
                obtain ⟨a9, c9, hv9⟩ := own_slice HO.out
                subst hv9
                have HR9 := hide (Rd.of_own HO.out)
                have hck := HR9.out.max
                unfold maxLen at hck
                go_wp2_with fail
                refine (Sums_yes a9 j c9 (List.replicate j k) wr HR9.out hn1 (by omega) (fun d hd => by rw [List.eq_of_mem_replicate hd]; omega)).mono ?_
                rw [List.reverse_replicate]
                obtain ⟨M, hM⟩ : ∃ M, j * k - j + 1 = M := ⟨_, rfl⟩
                have hMb : M ≤ 1000 := by rw [← hM]; have : j * k ≤ 4 * 8 := Nat.mul_le_mul hn4 hk8; omega
                rw [wl_keep j k M hM, tl_length]
                rintro e w5 ⟨b5, rfl, hT5, -, hB5⟩
                have HM := hide hM
                have HT5 := hide hT5
                have HB5 := hide (HBr.out.trans (hB5.mono HBr.out.size))
                clear hT5 hB5 hM
                go_wp2_with fail
                refine (Keep_yes j k j w5 hn1 (by omega) hk1 (by omega) hn1 (Nat.le_refl _) (Nat.le_trans (Nat.pow_le_pow_left hk8 j) (Nat.le_trans (Nat.pow_le_pow_right (by omega) hn4) (by omega))) M HM.out).mono ?_
                rintro e w6 ⟨b6, rfl, hT6, -, hB6⟩
                have HT6 := hide hT6
                have HT5' := hide (HT5.out.below hB6 HT5.out.lt)
                have HB6 := hide (HB5.out.trans (hB6.mono HB5.out.size))
                clear hT6 hB6
                go_wp2_with fail
                have R5 := HT5'.out.rd (by rw [tl_length]; unfold maxLen; omega)
                have R6 := HT6.out.rd (by rw [tl_length]; unfold maxLen; omega)
                rw [tl_length] at R5 R6
                refine (same_any _ _ _ _ _ _ _ _ w6 R5 R6).mono ?_
                rintro e w7 ⟨rfl, q7, hw7⟩
                subst w7
                rw [show decide (toI (tl (keF j j) j M (List.replicate j k)) = toI (tl (keF j j) j M (List.replicate j k))) = true from by simp]
                clear R5 R6
                go_wp2_with fail
                go_ret
                exact ⟨rfl, HB6.out.trans (drewN_below _ _ _)⟩
      · have hk1 : 1 ≤ k := by omega
        have hk0' : ((k : Int) == 0) = false := by simp; omega
        have hD6 : k ≤ 10 := by omega
        have hD1 : 1 ≤ k := hk1
        rcases hex with ⟨g1, g2⟩ | g1
        · have g1' : decide ((k : Int) < (n0 : Int)) = true := by simpa using g1
          go_wp2_with fail
          refine (Sums_yes a7 k c7 D wr HRL.out hD1 hD6 HDB.out).mono ?_
          rintro e w2 ⟨b2, rfl, hT2, -, hB2⟩
          have HB2 := hide (HB.out.trans (hB2.mono HB.out.size))
          have HT2 := hide hT2
          have hlT : (wl D.reverse).length ≤ 1000 := by
            rw [wl_length, List.sum_reverse, List.length_reverse]
            have := sum_le D 20 (fun d hd => (HDB.out d hd).2)
            have := HDL.out
            omega
          obtain ⟨TL, hTL⟩ : ∃ TL, (wl D.reverse).length = TL := ⟨_, rfl⟩
          rw [hTL] at hlT
          rw [hTL]
          have HPAL : Hid (∀ i, i < TL → (wl D.reverse).getD i 0 = (wl D.reverse).getD (TL - 1 - i) 0) := hide (fun i hi => by
            have := wl_pal D.reverse (fun d hd => (HDB.out d (List.mem_reverse.1 hd)).1) i (by rw [hTL]; exact hi)
            rw [hTL] at this
            exact this)
          have HTOT : Hid (sumTo (fun j => (wl D.reverse).getD j 0) TL = PA) := hide (by
            have := wl_total D.reverse (fun d hd => (HDB.out d (List.mem_reverse.1 hd)).1)
            rw [hTL, prod_reverse, HPA.out] at this
            exact this)
          have HTL := hide hTL
          clear hT2 hB2 hTL
          go_wp2_with fail
          go_loopw [13, 14] (fun u v wr => ∃ (i S q : Nat), i ≤ TL ∧ v = .int .i64 i ∧ u = .int .i64 S ∧ wr = w2.drewN q ∧ Hid (S = sumTo (fun j => (wl D.reverse).getD j 0) i)) (fun _ v _ => TL - (intOf v).toNat)
          case atStart => exact ⟨0, 0, 0, by omega, rfl, rfl, rfl, hide rfl⟩
          case round =>
            obtain ⟨i, S, q, hi, rfl, rfl, rfl, HS⟩ := hrel
            by_cases hlt : i < TL
            · have hlt' : (i : Int) < (TL : Int) := by omega
              have r1 := HT2.out.cell (i := i) (by rw [HTL.out]; exact hlt)
              obtain ⟨m, hm⟩ : ∃ m, TL - 1 - i = m := ⟨_, rfl⟩
              have hme : (TL : Int) - 1 - (i : Int) = (m : Int) := by omega
              have hmt : m < TL := by omega
              have hmt' : (m : Int) < (TL : Int) := by omega
              have r2 := HT2.out.cell (i := m) (by rw [HTL.out]; exact hmt)
              have hpal := HPAL.out i hlt
              rw [hm] at hpal
              rw [← hpal] at r2
              obtain ⟨y, hy⟩ : ∃ y, (wl D.reverse).getD i 0 = y := ⟨_, rfl⟩
              rw [hy] at r1 r2
              have hSy : S + y ≤ 64000000 := by
                have h1 := HTOT.out
                have h2 := sumTo_mono (g := fun j => (wl D.reverse).getD j 0) (show i + 1 ≤ TL by omega)
                rw [sumTo, ← HS.out, h1] at h2
                have h3 : S + (wl D.reverse).getD i 0 ≤ PA := h2
                rw [hy] at h3
                omega
              obtain ⟨S2, hS2⟩ : ∃ S2, S + y = S2 := ⟨_, rfl⟩
              have hS2e : (S : Int) + (y : Int) = (S2 : Int) := by omega
              have HS2 : Hid (S2 = sumTo (fun j => (wl D.reverse).getD j 0) (i + 1)) := hide (by
                show S2 = sumTo (fun j => (wl D.reverse).getD j 0) i + (wl D.reverse).getD i 0
                rw [← HS.out, hy, hS2])
              have r1' : w2.cell? ⟨b2, i, none⟩ = some (.int .i64 (y : Int)) := r1
              have r2' : w2.cell? ⟨b2, m, none⟩ = some (.int .i64 (y : Int)) := r2
              have hyy : ((y : Int) != (y : Int)) = false := by simp
              clear hm hpal hy hS2 r1 r2
              go_wp2_with fail
              go_quiet (fail)
              go_wp2_with fail
              go_roundw
              case rel => exact ⟨i + 1, S2, _, by omega, by go_num, rfl, rfl, HS2⟩
              case measure => simp [intOf]; omega
            · have hlt' : ¬ (i : Int) < (TL : Int) := by omega
              obtain rfl : i = TL := by omega
              have hSP : S = PA := by rw [HS.out, HTOT.out]
              subst hSP
              have hne : ((S : Int) != (S : Int)) = false := by simp
              have HBq := hide (HB2.out.trans (drewN_below _ w2 q))
              generalize w2.drewN q = w3 at *
              go_wp2_with fail
              refine (picked_any many 4 _ hm1 hm2 (by omega) (by omega)).mono ?_
              rintro e w4 ⟨rfl, hw4⟩
              subst w4
              have hp1 := pk_lt many 4 (by omega)
              obtain ⟨n, hn⟩ : ∃ n, 1 + pk many 4 = n := ⟨_, rfl⟩
              have hne1 : (1 : Int) + ((pk many 4 : Nat) : Int) = (n : Int) := by omega
              have hn1 : 1 ≤ n := by omega
              have hn4 : n ≤ 4 := by omega
              generalize pk many 4 = P4 at *
              go_wp2_with fail
              refine (picked_any sides 8 _ hs1 hs2 (by omega) (by omega)).mono ?_
              rintro e w4 ⟨rfl, hw4⟩
              subst w4
              have hp2 := pk_lt sides 8 (by omega)
              obtain ⟨k, hk⟩ : ∃ k, 1 + pk sides 8 = k := ⟨_, rfl⟩
              have hke1 : (1 : Int) + ((pk sides 8 : Nat) : Int) = (k : Int) := by omega
              have hk1 : 1 ≤ k := by omega
              have hk8 : k ≤ 8 := by omega
              generalize pk sides 8 = P8 at *
              clear hn hk
              go_wp2_with fail
              go_loopw [17, 18] (fun u v wr => ∃ (j : Nat), j ≤ n ∧ v = .int .i64 j ∧ Hid (wr.ownsRow w.heap.size 3 1 u j ((toI (List.replicate j k)).map (Value.int .i64))) ∧ Hid (Below w.heap.size w wr)) (fun _ v _ => n - (intOf v).toNat)
              case atStart => exact ⟨0, by omega, rfl, hide (World.ownsRow_nil _ _ _ _), HBq⟩
              case round =>
                rename_i uu
                obtain ⟨j, hj, rfl, HO, HBr⟩ := hrel
                by_cases hjn : j < n
                · have hjn' : (j : Int) < (n : Int) := by omega
                  have HO2 := hide (own_later HO.out ((Below.refl _ wr).alloc (Nat.le_refl _) (.cells #[.int .i64 (k : Int)] 3)))
                  have HR2 := hide (one_blk wr k)
                  have HB2' := hide (HBr.out.alloc HBr.out.size (.cells #[.int .i64 (k : Int)] 3))
                  go_wp2_with (at_builtin; refine wpList_append_rd _ rfl _ _ rfl w.heap.size _ j (toI (List.replicate j k)) rfl HO2.out _ 1 1 [(k : Int)] rfl HR2.out (by omega) HB2'.out.size ?_)
                  intro v5 w5 hO5 hG5
                  have HO5 : Hid (w5.ownsRow w.heap.size 3 1 v5 (j + 1) ((toI (List.replicate (j + 1) k)).map (Value.int .i64))) := hide (by
                    rw [show List.replicate (j + 1) k = List.replicate j k ++ [k] from List.replicate_succ', toI_append, toI_one, List.map_append]
                    exact hO5)
                  have HB5 := hide (HB2'.out.grown hG5 HB2'.out.size (fun g hg => own_base HO2.out hg))
                  clear hO5 hG5
                  go_wp2_with fail
                  go_roundw
                  case rel => exact ⟨j + 1, by omega, by go_num, HO5, HB5⟩
                  case measure => simp [intOf]; omega
                · have hjn' : ¬ (j : Int) < (n : Int) := by omega
                  obtain rfl : j = n := by omega
                  obtain ⟨a9, c9, hv9⟩ := own_slice HO.out
                  subst hv9
                  have HR9 := hide (Rd.of_own HO.out)
                  have hck := HR9.out.max
                  unfold maxLen at hck
                  go_wp2_with fail
                  refine (Sums_yes a9 j c9 (List.replicate j k) wr HR9.out hn1 (by omega) (fun d hd => by rw [List.eq_of_mem_replicate hd]; omega)).mono ?_
                  rw [List.reverse_replicate]
                  obtain ⟨M, hM⟩ : ∃ M, j * k - j + 1 = M := ⟨_, rfl⟩
                  have hMb : M ≤ 1000 := by rw [← hM]; have : j * k ≤ 4 * 8 := Nat.mul_le_mul hn4 hk8; omega
                  rw [wl_keep j k M hM, tl_length]
                  rintro e w5 ⟨b5, rfl, hT5, -, hB5⟩
                  have HM := hide hM
                  have HT5 := hide hT5
                  have HB5 := hide (HBr.out.trans (hB5.mono HBr.out.size))
                  clear hT5 hB5 hM
                  go_wp2_with fail
                  refine (Keep_yes j k j w5 hn1 (by omega) hk1 (by omega) hn1 (Nat.le_refl _) (Nat.le_trans (Nat.pow_le_pow_left hk8 j) (Nat.le_trans (Nat.pow_le_pow_right (by omega) hn4) (by omega))) M HM.out).mono ?_
                  rintro e w6 ⟨b6, rfl, hT6, -, hB6⟩
                  have HT6 := hide hT6
                  have HT5' := hide (HT5.out.below hB6 HT5.out.lt)
                  have HB6 := hide (HB5.out.trans (hB6.mono HB5.out.size))
                  clear hT6 hB6
                  go_wp2_with fail
                  have R5 := HT5'.out.rd (by rw [tl_length]; unfold maxLen; omega)
                  have R6 := HT6.out.rd (by rw [tl_length]; unfold maxLen; omega)
                  rw [tl_length] at R5 R6
                  refine (same_any _ _ _ _ _ _ _ _ w6 R5 R6).mono ?_
                  rintro e w7 ⟨rfl, q7, hw7⟩
                  subst w7
                  rw [show decide (toI (tl (keF j j) j M (List.replicate j k)) = toI (tl (keF j j) j M (List.replicate j k))) = true from by simp]
                  clear R5 R6
                  go_wp2_with fail
                  go_ret
                  exact ⟨rfl, HB6.out.trans (drewN_below _ _ _)⟩
        · have g1' : decide ((k : Int) < (n0 : Int)) = false := by simpa using g1
          go_wp2_with fail
          refine (Sums_yes a7 k c7 D wr HRL.out hD1 hD6 HDB.out).mono ?_
          rintro e w2 ⟨b2, rfl, hT2, -, hB2⟩
          have HB2 := hide (HB.out.trans (hB2.mono HB.out.size))
          have HT2 := hide hT2
          have hlT : (wl D.reverse).length ≤ 1000 := by
            rw [wl_length, List.sum_reverse, List.length_reverse]
            have := sum_le D 20 (fun d hd => (HDB.out d hd).2)
            have := HDL.out
            omega
          obtain ⟨TL, hTL⟩ : ∃ TL, (wl D.reverse).length = TL := ⟨_, rfl⟩
          rw [hTL] at hlT
          rw [hTL]
          have HPAL : Hid (∀ i, i < TL → (wl D.reverse).getD i 0 = (wl D.reverse).getD (TL - 1 - i) 0) := hide (fun i hi => by
            have := wl_pal D.reverse (fun d hd => (HDB.out d (List.mem_reverse.1 hd)).1) i (by rw [hTL]; exact hi)
            rw [hTL] at this
            exact this)
          have HTOT : Hid (sumTo (fun j => (wl D.reverse).getD j 0) TL = PA) := hide (by
            have := wl_total D.reverse (fun d hd => (HDB.out d (List.mem_reverse.1 hd)).1)
            rw [hTL, prod_reverse, HPA.out] at this
            exact this)
          have HTL := hide hTL
          clear hT2 hB2 hTL
          go_wp2_with fail
          go_loopw [13, 14] (fun u v wr => ∃ (i S q : Nat), i ≤ TL ∧ v = .int .i64 i ∧ u = .int .i64 S ∧ wr = w2.drewN q ∧ Hid (S = sumTo (fun j => (wl D.reverse).getD j 0) i)) (fun _ v _ => TL - (intOf v).toNat)
          case atStart => exact ⟨0, 0, 0, by omega, rfl, rfl, rfl, hide rfl⟩
          case round =>
            obtain ⟨i, S, q, hi, rfl, rfl, rfl, HS⟩ := hrel
            by_cases hlt : i < TL
            · have hlt' : (i : Int) < (TL : Int) := by omega
              have r1 := HT2.out.cell (i := i) (by rw [HTL.out]; exact hlt)
              obtain ⟨m, hm⟩ : ∃ m, TL - 1 - i = m := ⟨_, rfl⟩
              have hme : (TL : Int) - 1 - (i : Int) = (m : Int) := by omega
              have hmt : m < TL := by omega
              have hmt' : (m : Int) < (TL : Int) := by omega
              have r2 := HT2.out.cell (i := m) (by rw [HTL.out]; exact hmt)
              have hpal := HPAL.out i hlt
              rw [hm] at hpal
              rw [← hpal] at r2
              obtain ⟨y, hy⟩ : ∃ y, (wl D.reverse).getD i 0 = y := ⟨_, rfl⟩
              rw [hy] at r1 r2
              have hSy : S + y ≤ 64000000 := by
                have h1 := HTOT.out
                have h2 := sumTo_mono (g := fun j => (wl D.reverse).getD j 0) (show i + 1 ≤ TL by omega)
                rw [sumTo, ← HS.out, h1] at h2
                have h3 : S + (wl D.reverse).getD i 0 ≤ PA := h2
                rw [hy] at h3
                omega
              obtain ⟨S2, hS2⟩ : ∃ S2, S + y = S2 := ⟨_, rfl⟩
              have hS2e : (S : Int) + (y : Int) = (S2 : Int) := by omega
              have HS2 : Hid (S2 = sumTo (fun j => (wl D.reverse).getD j 0) (i + 1)) := hide (by
                show S2 = sumTo (fun j => (wl D.reverse).getD j 0) i + (wl D.reverse).getD i 0
                rw [← HS.out, hy, hS2])
              have r1' : w2.cell? ⟨b2, i, none⟩ = some (.int .i64 (y : Int)) := r1
              have r2' : w2.cell? ⟨b2, m, none⟩ = some (.int .i64 (y : Int)) := r2
              have hyy : ((y : Int) != (y : Int)) = false := by simp
              clear hm hpal hy hS2 r1 r2
              go_wp2_with fail
              go_quiet (fail)
              go_wp2_with fail
              go_roundw
              case rel => exact ⟨i + 1, S2, _, by omega, by go_num, rfl, rfl, HS2⟩
              case measure => simp [intOf]; omega
            · have hlt' : ¬ (i : Int) < (TL : Int) := by omega
              obtain rfl : i = TL := by omega
              have hSP : S = PA := by rw [HS.out, HTOT.out]
              subst hSP
              have hne : ((S : Int) != (S : Int)) = false := by simp
              have HBq := hide (HB2.out.trans (drewN_below _ w2 q))
              generalize w2.drewN q = w3 at *
              go_wp2_with fail
              refine (picked_any many 4 _ hm1 hm2 (by omega) (by omega)).mono ?_
              rintro e w4 ⟨rfl, hw4⟩
              subst w4
              have hp1 := pk_lt many 4 (by omega)
              obtain ⟨n, hn⟩ : ∃ n, 1 + pk many 4 = n := ⟨_, rfl⟩
              have hne1 : (1 : Int) + ((pk many 4 : Nat) : Int) = (n : Int) := by omega
              have hn1 : 1 ≤ n := by omega
              have hn4 : n ≤ 4 := by omega
              generalize pk many 4 = P4 at *
              go_wp2_with fail
              refine (picked_any sides 8 _ hs1 hs2 (by omega) (by omega)).mono ?_
              rintro e w4 ⟨rfl, hw4⟩
              subst w4
              have hp2 := pk_lt sides 8 (by omega)
              obtain ⟨k, hk⟩ : ∃ k, 1 + pk sides 8 = k := ⟨_, rfl⟩
              have hke1 : (1 : Int) + ((pk sides 8 : Nat) : Int) = (k : Int) := by omega
              have hk1 : 1 ≤ k := by omega
              have hk8 : k ≤ 8 := by omega
              generalize pk sides 8 = P8 at *
              clear hn hk
              go_wp2_with fail
              go_loopw [17, 18] (fun u v wr => ∃ (j : Nat), j ≤ n ∧ v = .int .i64 j ∧ Hid (wr.ownsRow w.heap.size 3 1 u j ((toI (List.replicate j k)).map (Value.int .i64))) ∧ Hid (Below w.heap.size w wr)) (fun _ v _ => n - (intOf v).toNat)
              case atStart => exact ⟨0, by omega, rfl, hide (World.ownsRow_nil _ _ _ _), HBq⟩
              case round =>
                rename_i uu
                obtain ⟨j, hj, rfl, HO, HBr⟩ := hrel
                by_cases hjn : j < n
                · have hjn' : (j : Int) < (n : Int) := by omega
                  have HO2 := hide (own_later HO.out ((Below.refl _ wr).alloc (Nat.le_refl _) (.cells #[.int .i64 (k : Int)] 3)))
                  have HR2 := hide (one_blk wr k)
                  have HB2' := hide (HBr.out.alloc HBr.out.size (.cells #[.int .i64 (k : Int)] 3))
                  go_wp2_with (at_builtin; refine wpList_append_rd _ rfl _ _ rfl w.heap.size _ j (toI (List.replicate j k)) rfl HO2.out _ 1 1 [(k : Int)] rfl HR2.out (by omega) HB2'.out.size ?_)
                  intro v5 w5 hO5 hG5
                  have HO5 : Hid (w5.ownsRow w.heap.size 3 1 v5 (j + 1) ((toI (List.replicate (j + 1) k)).map (Value.int .i64))) := hide (by
                    rw [show List.replicate (j + 1) k = List.replicate j k ++ [k] from List.replicate_succ', toI_append, toI_one, List.map_append]
                    exact hO5)
                  have HB5 := hide (HB2'.out.grown hG5 HB2'.out.size (fun g hg => own_base HO2.out hg))
                  clear hO5 hG5
                  go_wp2_with fail
                  go_roundw
                  case rel => exact ⟨j + 1, by omega, by go_num, HO5, HB5⟩
                  case measure => simp [intOf]; omega
                · have hjn' : ¬ (j : Int) < (n : Int) := by omega
                  obtain rfl : j = n := by omega
                  obtain ⟨a9, c9, hv9⟩ := own_slice HO.out
                  subst hv9
                  have HR9 := hide (Rd.of_own HO.out)
                  have hck := HR9.out.max
                  unfold maxLen at hck
                  go_wp2_with fail
                  refine (Sums_yes a9 j c9 (List.replicate j k) wr HR9.out hn1 (by omega) (fun d hd => by rw [List.eq_of_mem_replicate hd]; omega)).mono ?_
                  rw [List.reverse_replicate]
                  obtain ⟨M, hM⟩ : ∃ M, j * k - j + 1 = M := ⟨_, rfl⟩
                  have hMb : M ≤ 1000 := by rw [← hM]; have : j * k ≤ 4 * 8 := Nat.mul_le_mul hn4 hk8; omega
                  rw [wl_keep j k M hM, tl_length]
                  rintro e w5 ⟨b5, rfl, hT5, -, hB5⟩
                  have HM := hide hM
                  have HT5 := hide hT5
                  have HB5 := hide (HBr.out.trans (hB5.mono HBr.out.size))
                  clear hT5 hB5 hM
                  go_wp2_with fail
                  refine (Keep_yes j k j w5 hn1 (by omega) hk1 (by omega) hn1 (Nat.le_refl _) (Nat.le_trans (Nat.pow_le_pow_left hk8 j) (Nat.le_trans (Nat.pow_le_pow_right (by omega) hn4) (by omega))) M HM.out).mono ?_
                  rintro e w6 ⟨b6, rfl, hT6, -, hB6⟩
                  have HT6 := hide hT6
                  have HT5' := hide (HT5.out.below hB6 HT5.out.lt)
                  have HB6 := hide (HB5.out.trans (hB6.mono HB5.out.size))
                  clear hT6 hB6
                  go_wp2_with fail
                  have R5 := HT5'.out.rd (by rw [tl_length]; unfold maxLen; omega)
                  have R6 := HT6.out.rd (by rw [tl_length]; unfold maxLen; omega)
                  rw [tl_length] at R5 R6
                  refine (same_any _ _ _ _ _ _ _ _ w6 R5 R6).mono ?_
                  rintro e w7 ⟨rfl, q7, hw7⟩
                  subst w7
                  rw [show decide (toI (tl (keF j j) j M (List.replicate j k)) = toI (tl (keF j j) j M (List.replicate j k))) = true from by simp]
                  clear R5 R6
                  go_wp2_with fail
                  go_ret
                  exact ⟨rfl, HB6.out.trans (drewN_below _ _ _)⟩
end Go.Proofs.Ytonmgbepkdlklaa
