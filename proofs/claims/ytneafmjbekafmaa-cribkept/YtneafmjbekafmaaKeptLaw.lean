/-
  The law 'CribKept': every way through it ends with true. No conditions beyond those that each theorem bears.
-/
import Derived.Test.YtneafmjbekafmaaKeptMath
import Derived.Test.YtneafmjbekafmaaHand2
import Derived.Deep.Cut
import Derived.Deep.CutRange
import Derived.Deep.DeepCutAuto
namespace Go.Proofs.Ytneafmjbekafmaa
open Go.RowKit Go.Shelf

set_option maxRecDepth 100000 in
set_option maxHeartbeats 8000000 in
theorem kept_any (a : Option Addr) (n c : Nat) (zs : List Int) (p q : Int) (hz : ∀ z ∈ zs, -9223372036854775808 ≤ z ∧ z ≤ 9223372036854775807) (hp1 : -9223372036854775808 ≤ p) (hp2 : p ≤ 9223372036854775807) (hq1 : -9223372036854775808 ≤ q) (hq2 : q ≤ 9223372036854775807) (w : World) (h : Rd w a n c zs) :
    Calls Try.prog 7 #[.slice a n c, .int .i64 p, .int .i64 q] w fun e w' => e = .returned (.bool true) ∧ Below w.heap.size w w' := by
  have HR := hide h
  have HZ := hide hz
  clear h hz
  go_enter Try.func7, Try.ntmps7
  go_wp2_with fail
  refine (hand_keep a n c 6 zs HZ.out (by omega) w HR.out).mono ?_
  rintro e w1 ⟨H, a1, c1, hl, hnd, hlt, rfl, hR1, hB1⟩
  have HR1 := hide hR1
  have HB1 := hide hB1
  clear hR1 hB1 HR HZ
  have KY := hide (Keep_yes a1 c1 H hnd hlt hl w1 HR1.out)
  obtain ⟨sb, hsb, hst, hall⟩ := keep_best H (othK (toI H) 52) (comb 4 (List.range 6)) (by decide)
  rw [hst] at KY
  have hFl : (pick H sb).length = 4 := by simp [pick]; exact (comb_nodup sb hsb).2.1
  simp only [hFl] at KY
  have FS := hide (fun s (hs : s ∈ comb 4 (List.range 6)) k (hk : k < 52) (hc : H.contains k = false) => four_start hnd hlt hl hs hk hc)
  have HSB := hide hsb
  have HALL : Hid (∀ t ∈ comb 4 (List.range 6), sumO (pick H t) (toI H) 52 ≤ sumO (pick H sb) (toI H) 52) := hide (fun t ht => by have := hall t ht; rwa [sumF_sumO, sumF_sumO] at this)
  rw [sumF_sumO] at KY
  have SL : Hid (∀ s ∈ comb 4 (List.range 6), ∀ k, k ≤ 52 → sumO (pick H s) (toI H) k ≤ 29 * k) := hide (fun s hs => sumO_le _ _ (fun k hk hc => by
    rw [contains_toI] at hc
    obtain ⟨f1, f2, f3⟩ := FS.out s hs k hk hc
    exact scN_le _ _ false f1 f2 f3))
  have HLEN := hide hl
  clear hst hall hsb hFl hl hnd hlt
  go_wp2_with fail
  refine KY.out.mono ?_
  rintro e w2 ⟨a2, c2, rfl, hR2, hB2⟩
  have HR2 := hide hR2
  have HB2 := hide (HB1.out.trans (hB2.mono HB1.out.size))
  have HH2 := hide (HR1.out.mono hB2)
  clear hR2 hB2 HB1 HR1 KY
  have hM := SL.out sb HSB.out 52 (by omega)
  obtain ⟨M, hMe⟩ : ∃ M, sumO (pick H sb) (toI H) 52 = M := ⟨_, rfl⟩
  rw [hMe] at HALL hM ⊢
  have HME := hide hMe
  clear hMe
  go_wp2_with fail
  refine (picked_any p 6 _ hp1 hp2 (by omega) (by omega)).mono ?_
  rintro e w3 ⟨rfl, hw⟩
  subst w3
  have hx6 : pk p 6 < 6 := pk_lt _ _ (by omega)
  obtain ⟨x, hx⟩ : ∃ x, pk p 6 = x := ⟨_, rfl⟩
  rw [hx] at hx6 ⊢
  clear hx
  go_wp2_with fail
  refine (picked_any q 5 _ hq1 hq2 (by omega) (by omega)).mono ?_
  rintro e w3 ⟨rfl, hw⟩
  subst w3
  have hy5 : pk q 5 < 5 := pk_lt _ _ (by omega)
  obtain ⟨y0, hy0⟩ : ∃ y, pk q 5 = y := ⟨_, rfl⟩
  rw [hy0] at hy5 ⊢
  clear hy0
  go_upto_if 45 with fail
  go_cut [12] (fun s wc => (∃ y : Nat, s = .int .i64 y ∧ y < 6 ∧ ¬ y = x) ∧ wc = w2)
  case first =>
    by_cases hge : x ≤ y0
    · have hge' : (x : Int) ≤ (y0 : Int) := by omega
      go_wp2
      go_meet
      case rel => exact ⟨⟨y0 + 1, by go_num, by omega, by omega⟩, rfl⟩
    · have hge' : ¬ (x : Int) ≤ (y0 : Int) := by omega
      go_wp2
      go_meet
      case rel => exact ⟨⟨y0, rfl, by omega, by omega⟩, rfl⟩
  case rest =>
    obtain ⟨⟨y, rfl, hy6, hyx⟩, hwc⟩ := hcut
    have hwc' := hwc.symm
    subst hwc'
    clear hwc
    have TM := hide (twoOut_mem x hx6 y hy6 hyx)
    obtain ⟨b1, o1, ha1, hc1⟩ := HH2.out.cells (by omega)
    subst ha1
    have HC : Hid (∀ i, i < 6 → w2.cell? ⟨b1, o1 + i, none⟩ = some (.int .i64 (H.getD i 0 : Nat))) := hide (fun i hi => by have := hc1 i hi; rwa [toI_getD] at this)
    clear hc1
    go_wp2
    go_loopw [13, 14] (fun s v wr => ∃ (j : Nat), v = .int .i64 j ∧ j ≤ 6 ∧ (∃ ad cc, s = .slice ad (twoOut x y j).length cc) ∧ Hid (wr.ownsRow w2.heap.size 3 1 s (twoOut x y j).length ((toI (pick H (twoOut x y j))).map (Value.int .i64))) ∧ Hid (Below w2.heap.size w2 wr)) (fun _ v _ => 6 - (intOf v).toNat)
    case atStart => exact ⟨0, rfl, by omega, ⟨_, _, rfl⟩, World.ownsRow_nil _ _ _ _, Below.refl _ _⟩
    case round =>
      obtain ⟨j, rfl, hj, ⟨ad, cc, rfl⟩, hO, hB⟩ := hrel
      by_cases hlt : j < 6
      · have hlt' : (j : Int) < 6 := by omega
        have hps := twoOut_succ x y j
        by_cases hjx : j = x
        · rw [if_pos (.inl hjx), List.append_nil] at hps
          have HPS := hide hps
          have d1 : ((j : Int) != (x : Int)) = false := by simp; omega
          clear hps hjx
          go_wp2
          go_roundw
          case rel => exact ⟨j + 1, by go_num, by omega, ⟨ad, cc, by rw [HPS.out]⟩, by rw [HPS.out]; exact hO.out, hB.out⟩
          case measure => simp [intOf]; omega
        · have d1 : ((j : Int) != (x : Int)) = true := by simp; omega
          by_cases hjy : j = y
          · rw [if_pos (.inr hjy), List.append_nil] at hps
            have HPS := hide hps
            have d2 : ((j : Int) != (y : Int)) = false := by simp; omega
            clear hps hjy
            go_wp2
            go_roundw
            case rel => exact ⟨j + 1, by go_num, by omega, ⟨ad, cc, by rw [HPS.out]⟩, by rw [HPS.out]; exact hO.out, hB.out⟩
            case measure => simp [intOf]; omega
          · rw [if_neg (by omega)] at hps
            have HPS := hide hps
            have d2 : ((j : Int) != (y : Int)) = true := by simp; omega
            have r1 := HC.out j hlt
            have r1' : wr.cell? ⟨b1, o1 + j, none⟩ = _ := (hB.out.cell (p := ⟨b1, o1 + j, none⟩) (World.block_lt_of_cell? w2 _ r1)).trans r1
            obtain ⟨v5, hv5⟩ : ∃ v, H.getD j 0 = v := ⟨_, rfl⟩
            rw [hv5] at r1'
            have HV5 := hide hv5
            have hlen6 : (twoOut x y j).length ≤ 6 := by
              refine Nat.le_trans (List.length_filter_le _ _) ?_
              simp; omega
            obtain ⟨T, hT⟩ : ∃ T, twoOut x y j = T := ⟨_, rfl⟩
            rw [hT] at hO hlen6 HPS ⊢
            clear hps r1 hv5 hT
            go_wp2_with (at_builtin; refine wpList_append_rd _ rfl (.tmp 60) (.tmp 65) rfl w2.heap.size _ T.length (toI (pick H T)) rfl (hO.out.alloc _) _ 1 1 [(v5 : Int)] rfl (one_rd _ _) (by omega) (by have := hB.out.size; simp; omega) ?_)
            intro v' w' hO' hG'
            obtain ⟨a', c', hv'⟩ := form_slice hO'
            rw [hv'] at hO' ⊢
            have hb0 : Below w2.heap.size w2 (wr.alloc (.cells #[.int .i64 (v5 : Int)] 3)) := hB.out.alloc hB.out.size _
            have HB' := hide (hb0.grown hG' hb0.size (fun j hj => (hO.out.lt j hj).1))
            have HO' := hide hO'
            clear hO' hG' hb0 hv'
            go_wp2_with fail
            go_roundw
            case rel =>
              refine ⟨j + 1, by go_num, by omega, ⟨a', c', by rw [HPS.out]; simp⟩, ?_, HB'.out⟩
              have := HO'.out
              rw [HPS.out]
              simp only [pick, toI, List.map_append, List.map_cons, List.map_nil, List.length_append, List.length_cons, List.length_nil, HV5.out, Nat.zero_add] at this ⊢
              exact this
            case measure => simp [intOf]; omega
      · obtain rfl : j = 6 := by omega
        rw [show (((6 : Nat)) : Int) = (6 : Int) from rfl]
        obtain ⟨w5, hw5⟩ : ∃ w5 : World, w5 = wr := ⟨_, rfl⟩
        subst hw5
        have hl4 : (twoOut x y 6).length = 4 := (comb_nodup _ TM.out).2.1
        rw [hl4] at hO ⊢
        have HRG := hide (Rd.of_own hO.out)
        have HRF := hide (HR2.out.mono hB.out)
        have HCW : Hid (∀ i, i < 6 → w5.cell? ⟨b1, o1 + i, none⟩ = some (.int .i64 (H.getD i 0 : Nat))) := hide (fun i hi => (hB.out.cell (p := ⟨b1, o1 + i, none⟩) (World.block_lt_of_cell? w2 _ (HC.out i hi))).trans (HC.out i hi))
        have HBW := hide (HB2.out.trans (hB.out.mono HB2.out.size))
        clear hO hB HC HR2 HB2 HH2 hl4
        obtain ⟨G, hG⟩ : ∃ G, pick H (twoOut x y 6) = G := ⟨_, rfl⟩
        obtain ⟨F, hF⟩ : ∃ F, pick H sb = F := ⟨_, rfl⟩
        have F1 := hide (FS.out sb HSB.out)
        have G1 := hide (FS.out _ TM.out)
        have F2 := hide (SL.out sb HSB.out)
        have G2 := hide (SL.out _ TM.out)
        have GM := hide (HALL.out _ TM.out)
        rw [hG] at HRG G1 G2 GM
        rw [hF] at HRF F1 F2 HME
        clear hG hF FS SL HALL TM HSB
        go_wp2
        go_loopw [15, 16, 17] (fun s15 s16 v wq => ∃ k : Nat, k ≤ 52 ∧ v = .int .i64 k ∧ s15 = .int .i64 (sumO F (toI H) k : Nat) ∧ s16 = .int .i64 (sumO G (toI H) k : Nat) ∧ Hid (Below w5.heap.size w5 wq)) (fun _ _ v _ => 52 - (intOf v).toNat)
        case atStart => exact ⟨0, by omega, rfl, rfl, rfl, Below.refl _ _⟩
        case round =>
          obtain ⟨k, hk, rfl, rfl, rfl, hB⟩ := hrel
          have f2 := F2.out k hk
          have g2 := G2.out k hk
          by_cases hk52 : k < 52
          · have hk52' : (k : Int) < 52 := by omega
            have SF := sumO_succ F (toI H) k
            have SG := sumO_succ G (toI H) k
            rw [contains_toI] at SF SG
            have HSF := hide SF
            have HSG := hide SG
            clear SF SG
            go_wp2
            go_loopw [18, 19] (fun s18 v wx => ∃ t : Nat, t ≤ 6 ∧ v = .int .i64 t ∧ s18 = .bool ((H.take t).contains k) ∧ Hid (Below w5.heap.size w5 wx)) (fun _ v _ => 6 - (intOf v).toNat)
            case atStart => exact ⟨0, by omega, rfl, rfl, hB⟩
            case round =>
              obtain ⟨t, ht, rfl, rfl, hBx⟩ := hrel
              by_cases ht6 : t < 6
              · have ht6' : (t : Int) < 6 := by omega
                have CT := contains_take H k t (by rw [HLEN.out]; exact ht6)
                have r1 := HCW.out t ht6
                have r2 := (hBx.out.cell (p := ⟨b1, o1 + t, none⟩) (World.block_lt_of_cell? w5 _ r1)).trans r1
                obtain ⟨u, hu⟩ : ∃ u, H.getD t 0 = u := ⟨_, rfl⟩
                rw [hu] at r2 CT
                clear r1 hu
                generalize (H.take t).contains k = bb at *
                cases bb with
                | true =>
                  rw [Bool.true_or] at CT
                  have HCT := hide CT
                  clear CT
                  go_wp2
                  go_roundw
                  case rel => exact ⟨t + 1, by omega, by go_num, by rw [HCT.out], hBx⟩
                  case measure => simp [intOf]; omega
                | false =>
                  rw [Bool.false_or] at CT
                  by_cases huk : u = k
                  · rw [decide_eq_true huk] at CT
                    have HCT := hide CT
                    have d1 : ((u : Int) == (k : Int)) = true := by simp; omega
                    clear CT
                    go_wp2
                    go_roundw
                    case rel => exact ⟨t + 1, by omega, by go_num, by rw [HCT.out], hBx⟩
                    case measure => simp [intOf]; omega
                  · rw [decide_eq_false huk] at CT
                    have HCT := hide CT
                    have d1 : ((u : Int) == (k : Int)) = false := by simp; omega
                    clear CT
                    go_wp2
                    go_roundw
                    case rel => exact ⟨t + 1, by omega, by go_num, by rw [HCT.out], hBx⟩
                    case measure => simp [intOf]; omega
              · obtain rfl : t = 6 := by omega
                rw [show (((6 : Nat)) : Int) = (6 : Int) from rfl, List.take_of_length_le (by rw [HLEN.out]; exact Nat.le_refl _)]
                cases hin : H.contains k with
                | true =>
                  rw [hin, if_pos rfl, Nat.add_zero] at HSF HSG
                  clear hin
                  go_wp2
                  go_roundw
                  case rel => exact ⟨k + 1, by omega, by go_num, by rw [HSF.out]; rfl, by rw [HSG.out]; rfl, hBx⟩
                  case measure => simp [intOf]; omega
                | false =>
                  rw [hin, if_neg (by simp)] at HSF HSG
                  obtain ⟨p1, p2, p3⟩ := F1.out k hk52 hin
                  obtain ⟨s1, s2, s3⟩ := G1.out k hk52 hin
                  have EF := hide (shE_ok p1 p2 p3)
                  have VF := hide (shV_ok false p1 p2 p3)
                  have EG := hide (shE_ok s1 s2 s3)
                  have VG := hide (shV_ok false s1 s2 s3)
                  have hf29 := scN_le F k false p1 p2 p3
                  have hg29 := scN_le G k false s1 s2 s3
                  generalize scN F k false = fk at *
                  generalize scN G k false = gk at *
                  clear hin p1 p2 p3 s1 s2 s3
                  go_wp2_with fail
                  refine (Show_any a2 4 c2 (toI F) (k : Int) false _ (HRF.out.mono hBx.out)).mono ?_
                  rintro e w8 ⟨rfl, hB8⟩
                  rw [EF.out, VF.out]
                  have HB8 := hide (hBx.out.trans (hB8.mono hBx.out.size))
                  clear hB8
                  go_wp2_with fail
                  refine (Show_any ad 4 cc (toI G) (k : Int) false _ (HRG.out.mono HB8.out)).mono ?_
                  rintro e w9 ⟨rfl, hB9⟩
                  rw [EG.out, VG.out]
                  have HB9 := hide (HB8.out.trans (hB9.mono HB8.out.size))
                  clear hB9
                  go_wp2_with fail
                  go_roundw
                  case rel => exact ⟨k + 1, by omega, by go_num, by rw [HSF.out]; go_num, by rw [HSG.out]; go_num, HB9⟩
                  case measure => simp [intOf]; omega
          · obtain rfl : k = 52 := by omega
            rw [show (((52 : Nat)) : Int) = (52 : Int) from rfl, HME.out]
            have gm := GM.out
            have dl : decide (((sumO G (toI H) 52 : Nat) : Int) ≤ (M : Int)) = true := by simp; omega
            have hle : ((sumO G (toI H) 52 : Nat) : Int) ≤ (M : Int) := by omega
            have dm : ((M : Int) == (M : Int)) = true := by simp
            generalize sumO G (toI H) 52 = Y at *
            go_wp2
            go_ret
            exact ⟨rfl, HBW.out.trans (hB.out.mono HBW.out.size)⟩

end Go.Proofs.Ytneafmjbekafmaa
