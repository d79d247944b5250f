/-
  The document's ways of a sum. No conditions beyond those that each theorem bears.
-/
import Derived.Test.YtonmgbepkdlklaaWays
import Derived.BigRegion
namespace Go.Proofs.Ytonmgbepkdlklaa
open Go.RowKit

theorem take_sum (ds : List Nat) (k : Nat) (h : k < ds.length) : (ds.take (k + 1)).sum = (ds.take k).sum + ds.getD k 0 := by
  rw [List.take_succ_eq_append_getElem h, List.sum_append]
  simp [List.getD, h]

theorem take_sum_le (ds : List Nat) (k : Nat) : (ds.take k).sum ≤ ds.sum := by
  have := List.take_append_drop k ds
  rw [← this, List.sum_append, List.take_append_drop]
  omega

theorem cut_sum (RS : List Nat) (d s q : Nat) (hq : q ≤ d) (hs : q = d ∨ s ≤ q) : sumTo (fun x => cs RS ((s : Int) - x - 1)) q = cs (d :: RS) (s : Int) := by
  rw [cs]
  obtain ⟨m, rfl⟩ : ∃ m, d = q + m := ⟨d - q, by omega⟩
  rw [sumTo_split]
  rcases hs with h | h
  · obtain rfl : m = 0 := by omega
    rfl
  · rw [sumTo_eq_zero m (fun x _ => cs_low _ _ (by omega))]
    rfl

set_option maxRecDepth 100000 in
set_option maxHeartbeats 8000000 in
theorem SumWays_any (a : Option Addr) (n c : Nat) (ds : List Nat) (w : World) (h : Rd w a n c (toI ds)) (hn : n ≤ 10) (hd : ∀ d ∈ ds, 1 ≤ d ∧ d ≤ 20) :
    Calls Try.prog 13 #[.slice a n c] w fun e w' => ∃ a' m c', e = .returned (.slice a' m c') ∧ Rd w' a' m c' (toI (wl ds.reverse)) ∧ Below w.heap.size w w' := by
  obtain ⟨i0, hi, hz0, hz1, hz2⟩ := info_parts Try.info3
  have hcm := h.max
  have hcn := h.cap
  unfold maxLen at hcm
  have hlen : ds.length = n := by have := h.len; rwa [toI_length] at this
  have hsum : ds.sum ≤ 200 := by have := sum_le ds 20 (fun d hd' => (hd d hd').2); omega
  obtain ⟨S, hS⟩ : ∃ S, ds.sum = S := ⟨_, rfl⟩
  rw [hS] at hsum
  have HS := hide hS
  have HLS : Hid (ds.length ≤ ds.sum) := hide (len_le_sum ds (fun x hx => (hd x hx).1))
  have HH := hide h
  have HLEN := hide hlen
  have HD := hide hd
  clear h hlen hd hS
  go_enter Try.func13, Try.ntmps13
  go_wp2
  go_loop [3, 4] (fun t v => ∃ (k : Nat), k ≤ n ∧ v = .int .i64 k ∧ t = .int .i64 ((ds.take k).sum : Nat)) (fun _ v => n - (intOf v).toNat)
  case atStart => exact ⟨0, by omega, rfl, rfl⟩
  case round =>
    obtain ⟨k, hk, rfl, rfl⟩ := hrel
    by_cases hlt : k < n
    · have hlt' : (k : Int) < (n : Int) := by omega
      obtain ⟨ba, oa, ha, hc⟩ := HH.out.cells (by omega)
      subst ha
      have r1 := hc k hlt
      rw [toI_getD] at r1
      have HTS : Hid ((ds.take (k + 1)).sum = (ds.take k).sum + ds.getD k 0) := hide (take_sum ds k (by rw [HLEN.out]; exact hlt))
      have hle : (ds.take k).sum + ds.getD k 0 ≤ 200 := by
        have h1 := take_sum_le ds (k + 1)
        have h2 := HTS.out
        have h3 := HS.out
        omega
      obtain ⟨A, hA⟩ : ∃ A, (ds.take k).sum = A := ⟨_, rfl⟩
      obtain ⟨D, hD⟩ : ∃ D, ds.getD k 0 = D := ⟨_, rfl⟩
      rw [hA, hD] at hle HTS
      rw [hD] at r1
      rw [hA]
      clear hc hA hD
      go_wp2
      go_round
      case rel => exact ⟨k + 1, by omega, by go_num, by rw [HTS.out]; go_num⟩
      case measure => simp [intOf]; omega
    · have hlt' : ¬ (k : Int) < (n : Int) := by omega
      obtain rfl : k = n := by omega
      have hSe : (ds.take k).sum = S := by rw [List.take_of_length_le (by rw [HLEN.out]; exact Nat.le_refl _), HS.out]
      rw [hSe]
      clear hSe
      obtain ⟨M, hM⟩ : ∃ M, S + 1 = M := ⟨_, rfl⟩
      have hM1 : (S : Int) + 1 = (M : Int) := by omega
      have hmm : M ≤ maxLen := by unfold maxLen; omega
      have hby : i0.bytes * M ≤ 281474976710656 := by rw [hz2]; omega
      have hM0 : (0 : Int) < (M : Int) := by omega
      have HM := hide hM
      clear hM
      go_wp2_with (at_make; refine wpList_make_full w rfl _ _ 22 rfl w.heap.size 3 i0 (.int .i64 0) 1 Try.underlying22 hi hz0 hz1 _ _ _ _ M rfl rfl (by omega) (by omega) hby hmm (Nat.le_refl _) ?_)
      intro w1 hown hgrow
      have hb1 : Below w.heap.size w w1 := (Below.refl _ _).grown hgrow (Nat.le_refl _) (fun k hk => by simp at hk)
      rw [made_ints] at hown
      have hN1 := Blk.of_own hown
      have r1 := hN1.cell (i := 0) (by simp; omega)
      have f1 := hN1.frozen 0
      have HN1 := hide (hN1.set 0 1)
      have HB1 := hide (hb1.setCell (p := ⟨w.heap.size, 0, none⟩) (Nat.le_refl _) (.int .i64 ((1 : Nat) : Int)))
      clear hown hgrow hb1 hN1
      go_wp2
      clear r1 f1
      go_loopw [5, 6] (fun t v wr => ∃ (k2 b : Nat) (T : List Nat), k2 ≤ k ∧ v = .int .i64 k2 ∧ t = .slice (some ⟨b, 0, none⟩) M M ∧ Hid (Blk wr b T) ∧ Hid (T.length = M) ∧ Hid (∀ j, j < M → T.getD j 0 = cs (ds.take k2).reverse (j : Int)) ∧ Hid (w.heap.size ≤ b) ∧ Hid (Below w.heap.size w wr)) (fun _ v _ => k - (intOf v).toNat)
      case atStart =>
        refine ⟨0, _, _, by omega, rfl, rfl, HN1, hide (by simp), hide (fun j hj => ?_), hide (Nat.le_refl _), HB1⟩
        rw [getD_setN _ _ _ _ (by simp; omega), rep0]
        show (if j = 0 then 1 else 0) = (if (j : Int) = 0 then 1 else 0)
        by_cases hj0 : j = 0
        · rw [if_pos hj0, if_pos (by omega)]
        · rw [if_neg hj0, if_neg (by omega)]
      case round =>
        clear HN1 HB1 hk hlt hlt'
        obtain ⟨k2, b, T, hk, rfl, rfl, HT, HTl, HTe, Hb, HB⟩ := hrel
        by_cases hlt : k2 < k
        · have hlt' : (k2 : Int) < (k : Int) := by omega
          have hR := HH.out.mono HB.out
          obtain ⟨ba, oa, ha, hc⟩ := hR.cells (by omega)
          subst ha
          have HR1 : Hid (∀ W, Below w.heap.size w W → W.cell? ⟨ba, oa + k2, none⟩ = some (.int .i64 ((ds.getD k2 0 : Nat) : Int))) := hide (fun W hW => by
            have := (HH.out.mono hW).cell (i := k2) hlt
            rw [this.2, toI_getD])
          obtain ⟨d, hdk⟩ : ∃ d, ds.getD k2 0 = d := ⟨_, rfl⟩
          have hdb : 1 ≤ d ∧ d ≤ 20 := by
            rw [← hdk]
            have : ds.getD k2 0 ∈ ds := by
              have hk' : k2 < ds.length := by rw [HLEN.out]; exact hlt
              simp [List.getD, hk']
            exact HD.out _ this
          obtain ⟨hd1, hd2⟩ := hdb
          rw [hdk] at HR1
          obtain ⟨RS, hRS⟩ : ∃ RS, (ds.take k2).reverse = RS := ⟨_, rfl⟩
          have HRS : Hid ((ds.take (k2 + 1)).reverse = d :: RS) := hide (by rw [rev_take ds k2 (by rw [HLEN.out]; exact hlt), hdk, hRS])
          have HPB : Hid (∀ j, cs (d :: RS) j ≤ 10240000000000) := hide (fun j => by
            rw [← HRS.out]
            refine Nat.le_trans (cs_le _ _) (Nat.le_trans (prod_le _ 20 (fun x hx => ?_)) (pow20 _ (by simp; omega)))
            exact (HD.out x (List.mem_of_mem_take (List.mem_reverse.1 hx))).2)
          rw [hRS] at HTe
          clear hdk hRS hc hR
          have hmm : M ≤ maxLen := by unfold maxLen; omega
          have hby : i0.bytes * M ≤ 281474976710656 := by rw [hz2]; omega
          have hm1 : M ≤ 201 := by have := HM.out; omega
          go_wp2_with (at_make; refine wpList_make_full wr rfl _ _ 22 rfl w.heap.size 3 i0 (.int .i64 0) 1 Try.underlying22 hi hz0 hz1 _ _ _ _ M rfl rfl (by omega) (by omega) hby hmm HB.out.size ?_)
          intro w1 hown hgrow
          have hb1 : Below wr.heap.size wr w1 := (Below.refl _ _).grown hgrow (Nat.le_refl _) (fun k hk => by simp at hk)
          rw [made_ints] at hown
          have HN1 := hide (Blk.of_own hown)
          have HT1 := hide (HT.out.below hb1 HT.out.lt)
          have HB1 := hide (HB.out.trans (hb1.mono HB.out.size))
          have hbw : b < wr.heap.size := HT.out.lt
          have hww : w.heap.size ≤ wr.heap.size := HB.out.size
          generalize hG : wr.heap.size = G at *
          clear hown hgrow hb1 hmm hby HT HB hG
          go_wp2
          go_loopw [8] (fun v wr => ∃ (s : Nat) (N : List Nat), s ≤ M ∧ v = .int .i64 s ∧ Hid (Blk wr G N) ∧ Hid (N.length = M) ∧ Hid (∀ j, j < M → N.getD j 0 = if j < s then cs (d :: RS) (j : Int) else 0) ∧ Hid (Blk wr b T) ∧ Hid (Below w.heap.size w wr)) (fun v _ => M - (intOf v).toNat)
          case atStart => exact ⟨0, _, by omega, rfl, HN1, hide (by simp), hide (fun j _ => by rw [rep0, if_neg (by omega)]), HT1, HB1⟩
          case round =>
            clear HN1 HT1 HB1
            obtain ⟨s, N, hs, rfl, HN, HNl, HNe, HTq, HBq⟩ := hrel
            by_cases hsm : s < M
            · have hsm' : (s : Int) ≤ (S : Int) := by have := HM.out; omega
              go_wp2
              go_loopw [9] (fun v wr => ∃ (q x : Nat) (N : List Nat), x = q + 1 ∧ q ≤ d ∧ q ≤ s ∧ v = .int .i64 x ∧ Hid (Blk wr G N) ∧ Hid (N.length = M) ∧ Hid (∀ j, j < M → N.getD j 0 = if j < s then cs (d :: RS) (j : Int) else if j = s then sumTo (fun x => cs RS ((s : Int) - x - 1)) q else 0) ∧ Hid (Blk wr b T) ∧ Hid (Below w.heap.size w wr)) (fun v _ => d + 1 - (intOf v).toNat)
              case atStart =>
                refine ⟨0, 1, N, rfl, by omega, by omega, rfl, HN, HNl, hide (fun j hj => ?_), HTq, HBq⟩
                rw [HNe.out j hj]
                by_cases h1 : j < s
                · rw [if_pos h1, if_pos h1]
                · rw [if_neg h1, if_neg h1]
                  split <;> rfl
              case round =>
                clear HN HNl HNe HTq HBq
                obtain ⟨q, x, N, hxq, hqd, hqs, rfl, HN, HNl, HNe, HTq, HBq⟩ := hrel
                have r1 := HR1.out _ HBq.out
                have hxq1 : q + 1 ≤ x := by omega
                have hxq2 : x ≤ q + 1 := by omega
                clear hxq
                by_cases hgo : x ≤ d ∧ x ≤ s
                · obtain ⟨hx1, hx2⟩ := hgo
                  have hx1' : (x : Int) ≤ (d : Int) := by omega
                  have hx2' : (x : Int) ≤ (s : Int) := by omega
                  have hdx1 : decide ((x : Int) ≤ (d : Int)) = true := by simpa using hx1
                  obtain ⟨p, hp⟩ : ∃ p, s - x = p := ⟨_, rfl⟩
                  have hpe : (s : Int) - (x : Int) = (p : Int) := by omega
                  have hpM : p < M := by omega
                  have r2 := HN.out.cell (i := s) (by rw [HNl.out]; exact hsm)
                  have f2 := HN.out.frozen s
                  have r3 := HTq.out.cell (i := p) (by rw [HTl.out]; exact hpM)
                  obtain ⟨y, hy⟩ : ∃ y, N.getD s 0 = y := ⟨_, rfl⟩
                  obtain ⟨t, ht⟩ : ∃ t, T.getD p 0 = t := ⟨_, rfl⟩
                  rw [hy] at r2
                  rw [ht] at r3
                  have hye : y = sumTo (fun x => cs RS ((s : Int) - x - 1)) q := by rw [← hy, HNe.out s hsm, if_neg (by omega), if_pos rfl]
                  have hte : t = cs RS ((s : Int) - (q : Nat) - 1) := by rw [← ht, HTe.out p hpM]; congr 1; omega
                  have hsuc : y + t = sumTo (fun x => cs RS ((s : Int) - x - 1)) (q + 1) := by rw [sumTo, ← hye, ← hte]
                  have hyt : y + t ≤ 10240000000000 := by
                    rw [hsuc]
                    refine Nat.le_trans (sumTo_mono (m := d) (by omega)) ?_
                    exact HPB.out (s : Int)
                  have HN2 := hide (HN.out.set s (y + t))
                  have HS2 : Hid (∀ j, j < M → (N.set s (y + t)).getD j 0 = if j < s then cs (d :: RS) (j : Int) else if j = s then sumTo (fun x => cs RS ((s : Int) - x - 1)) (q + 1) else 0) := hide (fun j hj => by
                    rw [getD_setN _ _ _ _ (by rw [HNl.out]; exact hsm)]
                    by_cases hjp : j = s
                    · subst hjp
                      rw [if_pos rfl, if_neg (by omega), if_pos rfl, hsuc]
                    · rw [if_neg hjp, HNe.out j hj]
                      by_cases h4 : j < s
                      · rw [if_pos h4, if_pos h4]
                      · rw [if_neg h4, if_neg h4, if_neg hjp, if_neg hjp])
                  have HL2 : Hid ((N.set s (y + t)).length = M) := hide (by rw [List.length_set]; exact HNl.out)
                  have HB2 : Hid (∀ m, Below w.heap.size w ((wr.setCell ⟨G, s, none⟩ (.int .i64 ((y + t : Nat) : Int))).drewN m)) := hide (fun m => (HBq.out.setCell (p := ⟨G, s, none⟩) (by show w.heap.size ≤ G; omega) (.int .i64 ((y + t : Nat) : Int))).trans (drewN_below _ _ _))
                  have HT2 := hide (HTq.out.other (g := G) (by omega) s (.int .i64 ((y + t : Nat) : Int)))
                  have hsm2 : (s : Int) < (M : Int) := by omega
                  have hpm2 : (p : Int) < (M : Int) := by omega
                  have hne1 : ¬ b = G := by omega
                  obtain ⟨z, hz⟩ : ∃ z, y + t = z := ⟨_, rfl⟩
                  rw [hz] at HN2 HS2 HL2 HB2 HT2 hyt
                  have hze : (y : Int) + (t : Int) = (z : Int) := by omega
                  clear hy ht hp HN HNl HNe HTq HBq hz hye hte hsuc
                  go_wp2
                  go_region
                  all_goals
                    go_wp2
                    go_roundw
                    case rel => exact ⟨q + 1, x + 1, _, by omega, by omega, by omega, by go_num, HN2, HL2, HS2, HT2, hide (HB2.out 1)⟩
                    case measure => simp [intOf]; omega
                · have hcut : sumTo (fun x => cs RS ((s : Int) - x - 1)) q = cs (d :: RS) (s : Int) := cut_sum RS d s q hqd (by omega)
                  have HNf : Hid (∀ j, j < M → N.getD j 0 = if j < s + 1 then cs (d :: RS) (j : Int) else 0) := hide (fun j hj => by
                    rw [HNe.out j hj]
                    by_cases h4 : j < s
                    · rw [if_pos h4, if_pos (by omega)]
                    · rw [if_neg h4]
                      by_cases h5 : j = s
                      · subst h5; rw [if_pos rfl, if_pos (by omega), hcut]
                      · rw [if_neg h5, if_neg (by omega)])
                  clear hcut
                  by_cases hx1 : x ≤ d
                  · have hx1' : (x : Int) ≤ (d : Int) := by omega
                    have hx2' : ¬ (x : Int) ≤ (s : Int) := by omega
                    clear hgo
                    go_wp2
                    go_roundw
                    case rel => exact ⟨s + 1, N, by omega, by go_num, HN, HNl, HNf, HTq, HBq⟩
                    case measure => simp [intOf]; omega
                  · have hx1' : ¬ (x : Int) ≤ (d : Int) := by omega
                    have hx1d : decide ((x : Int) ≤ (d : Int)) = false := by simpa using hx1
                    clear hgo
                    go_wp2
                    go_roundw
                    case rel => exact ⟨s + 1, N, by omega, by go_num, HN, HNl, HNf, HTq, HBq⟩
                    case measure => simp [intOf]; omega
            · have hsm' : ¬ (s : Int) ≤ (S : Int) := by have := HM.out; omega
              obtain rfl : s = M := by omega
              have HNf : Hid (∀ j, j < s → N.getD j 0 = cs (ds.take (k2 + 1)).reverse (j : Int)) := hide (fun j hj => by rw [HNe.out j hj, if_pos hj, HRS.out])
              go_wp2
              go_roundw
              case rel => exact ⟨k2 + 1, G, N, by omega, by go_num, rfl, HN, HNl, HNf, hide hww, HBq⟩
              case measure => simp [intOf]; omega
        · have hlt' : ¬ (k2 : Int) < (k : Int) := by omega
          obtain rfl : k2 = k := by omega
          have hlm : k2 ≤ M := by have := HLS.out; have := HS.out; have := HLEN.out; have := HM.out; omega
          have hlm' : (k2 : Int) ≤ (M : Int) := by omega
          have hMk : ¬ M = k2 := by have := HLS.out; have := HS.out; have := HLEN.out; have := HM.out; omega
          have hRd := (HT.out.rd (by unfold maxLen; rw [HTl.out]; have := HM.out; omega)).from (k := k2) (by rw [HTl.out]; exact hlm)
          rw [HTl.out] at hRd
          have HRF : Hid ((toI T).drop k2 = toI (wl ds.reverse)) := hide (by
            rw [toI, toI, ← List.map_drop]
            congr 1
            have e1 := HM.out
            have e2 := HS.out
            have e3 := HLEN.out
            have e4 := HLS.out
            have el : (wl ds.reverse).length = M - k2 := by rw [wl_length, List.sum_reverse, List.length_reverse]; omega
            refine ext_getD (by rw [List.length_drop, HTl.out, el]) (fun j hj => ?_)
            rw [List.length_drop, HTl.out] at hj
            rw [wl_get _ _ (by rw [← wl_length, el]; exact hj)]
            have : (T.drop k2).getD j 0 = T.getD (k2 + j) 0 := by simp [List.getD]
            rw [this, HTe.out _ (by omega), List.take_of_length_le (by omega)]
            congr 1
            rw [List.length_reverse, e3]; omega)
          rw [HRF.out, if_neg hMk] at hRd
          simp only [Option.map_some, Addr.add_lit, Nat.zero_add] at hRd
          have HRD := hide hRd
          clear hRd
          go_wp2
          go_ret
          exact ⟨_, _, _, rfl, HRD.out, HB.out⟩

end Go.Proofs.Ytonmgbepkdlklaa
