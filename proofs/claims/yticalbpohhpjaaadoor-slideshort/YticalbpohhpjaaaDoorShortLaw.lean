/-
  The law of shortest ways. No conditions beyond those that each theorem bears.
-/
import Derived.Test.YticalbpohhpjaaaDoorTk
import Derived.Test.YticalbpohhpjaaaDoorHalfLaw
namespace Go.Proofs.YticalbpohhpjaaaDoor
open Go.RowKit

theorem rsum_le {W H : Nat} (hE : Ends W H 6 22) : ∀ k, rsum W H k ≤ 1000 * k
  | 0 => Nat.le_refl _
  | k + 1 => by have := rsum_le hE k; have := hE.all k; rw [rsum_succ]; unfold rlen; omega

theorem gway_le {W H g : Nat} (h : Six W H) (hg : g < 6) : g % W ≤ W - 1 ∧ g / W ≤ H - 1 := by
  rcases h with ⟨rfl, rfl⟩ | ⟨rfl, rfl⟩ <;> omega

set_option maxRecDepth 100000 in
set_option maxHeartbeats 16000000 in
theorem short_any (pk0 : Int) (wide : Bool) (w : World) (hT : Tab w) (bk : -9223372036854775808 ≤ pk0 ∧ pk0 ≤ 9223372036854775807) :
    Calls Tryd.prog 6 #[.int .i64 pk0, .bool wide] w fun e w' => e = .returned (.bool true) ∧ Below w.heap.size w w' := by
  obtain ⟨W, H, h6, hwt, hwf⟩ : ∃ W H : Nat, Six W H ∧ (wide = true → W = 3 ∧ H = 2) ∧ (wide = false → W = 2 ∧ H = 3) := by
    cases wide
    · exact ⟨2, 3, .inl ⟨rfl, rfl⟩, (fun e => by cases e), fun _ => ⟨rfl, rfl⟩⟩
    · exact ⟨3, 2, .inr ⟨rfl, rfl⟩, (fun _ => ⟨rfl, rfl⟩), fun e => by cases e⟩
  have hu : 2 ≤ W ∧ W ≤ 5 := by rcases h6 with h | h <;> omega
  have hh : 2 ≤ H ∧ H ≤ 5 := by rcases h6 with h | h <;> omega
  have hWb : W ≤ 3 := by rcases h6 with h | h <;> omega
  have hHb : H ≤ 3 := by rcases h6 with h | h <;> omega
  have hN : W * H = 6 := by rcases h6 with ⟨rfl, rfl⟩ | ⟨rfl, rfl⟩ <;> rfl
  have HE := hide (six_ends h6).1
  have HS := hide (six_ends h6).2
  have H6 := hide h6
  have HT := hide hT
  have HC1 := hide (fun W0 => picked_any pk0 720 W0 bk.1 bk.2 (by omega) (by omega))
  have hkF := pk_lt pk0 720 (by omega)
  generalize pk pk0 720 = kk at *
  have HNN := hide hN
  clear hT h6 hN
  go_enter Tryd.func6, Tryd.ntmps6
  go_upto_if 20 with fail
  go_cut [5, 6] (fun s t wc => s = .int .i64 W ∧ t = .int .i64 H ∧ wc = w)
  case first =>
    cases wide
    · obtain ⟨rfl, rfl⟩ := hwf rfl
      go_wp2
      go_meet
      case rel => exact ⟨rfl, rfl, rfl⟩
    · obtain ⟨rfl, rfl⟩ := hwt rfl
      go_wp2
      go_meet
      case rel => exact ⟨rfl, rfl, rfl⟩
  case rest =>
  obtain ⟨rfl, rfl, hwc⟩ := hcut
  have hwc' := hwc.symm
  subst hwc'
  clear hwc hwt hwf
  go_wp2_with fail
  go_loopw [7, 8] (fun sv kv wr => ∃ k : Nat, k ≤ 22 ∧ kv = .int .i64 k ∧ sv = .int .i64 (rsum W H k : Nat) ∧ Hid (Below w.heap.size w wr)) (fun _ kv _ => 22 - (intOf kv).toNat)
  case atStart => exact ⟨0, by omega, rfl, rfl, hide (Below.refl _ _)⟩
  case round =>
    obtain ⟨k, hk, rfl, rfl, HB⟩ := hrel
    by_cases hk2 : k < 22
    · have hle : (k : Int) ≤ 21 := by omega
      have HC := hide (Count_yes W H 6 22 k wr (HT.out.mono HB.out) HE.out hu hh HNN.out (by omega) (by omega))
      have h1 := rsum_le HE.out k
      have h2 := HE.out.all k
      have h3 := rsum_succ W H k
      unfold rlen at h3
      unfold rlen at HC
      generalize (rgs W H 6 k).2.length = ln at *
      have HS3 := hide h3
      clear h3
      go_wp2_with fail
      refine HC.out.mono ?_
      rintro e w2 ⟨rfl, b2⟩
      have HB2 := hide (below_callB HB.out b2)
      clear HC b2
      go_wp2_with fail
      go_roundw
      case rel => exact ⟨k + 1, by omega, by go_num, by rw [HS3.out]; go_num, HB2⟩
      case measure => simp [intOf]; omega
    · obtain rfl : k = 22 := by omega
      rw [HS.out]
      have HTR := hide (tray_any W H 6 kk wr HNN.out ⟨by omega, by omega⟩ hkF)
      have HOZ : Hid (IsOrd (nthSt 6 kk 6).1) := hide (nth_ord 6 kk hkF)
      have hlZ : (nthSt 6 kk 6).1.length = 6 := nth_length 6 kk 6
      obtain ⟨g, hg, hg6, hgz⟩ := HOZ.out.gap hlZ (by omega)
      have HKN := hide (six_known H6.out hkF ⟨HOZ.out, hlZ, by rw [hg]; simp⟩)
      have HGT : Hid (Gt 6 ((nthSt 6 kk 6).1, g)) := hide ⟨HOZ.out, hlZ, hg⟩
      rw [show (ix (nthSt 6 kk 6).1 0).toNat = g by rw [hg]; simp] at HKN
      generalize (nthSt 6 kk 6).1 = Z at *
      have hkF2 := hkF
      clear hk2
      go_upto_region 14 with fail
      go_wp2_with fail
      refine (HC1.out _).mono ?_
      rintro e wx ⟨rfl, hwx⟩
      subst wx
      go_wp2_with fail
      refine HTR.out.mono ?_
      rintro e w1 ⟨a1, c1, rfl, hR1, b1⟩
      have HR1 := hide hR1
      have HB1 := hide (below_callB HB.out b1)
      clear hR1 b1 HTR HB
      go_upto_region 15 with fail
      obtain ⟨w2, hw2⟩ : ∃ w2, w1.alloc (Obj.cells (gdA W H a1 6 c1) 24) = w2 := ⟨_, rfl⟩
      rw [hw2]
      have b2 : Below w1.heap.size w1 w2 := by rw [← hw2]; exact (Below.refl _ w1).alloc (Nat.le_refl _) _
      have K2 : Gd w2 w1.heap.size W H a1 6 c1 := by rw [← hw2]; exact Gd.new _ _ _ _ _ _
      have S2 : Hid (w1.heap.size < w2.heap.size) := hide (by rw [← hw2]; simp)
      have HR2 := hide (HR1.out.mono b2)
      have HB2 := hide (below_callB HB1.out b2)
      generalize w1.heap.size = gb at *
      clear hw2 b2 HR1 HB1
      have hWHi : (W : Int) * (H : Int) = 6 := by have := HNN.out; rw [← Int.natCast_mul, this]; rfl
      have HM : Hid (mayS W H Z) := hide ⟨by omega, by omega, by omega, by omega, by rw [hlZ, hWHi]; rfl, fun i hi => HOZ.out.mem i hi⟩
      have hNz : W * H = Z.length := by rw [HNN.out, hlZ]
      obtain ⟨CZ, hCZ⟩ : ∃ CZ, canZ Z W 6 g = CZ := ⟨_, rfl⟩
      have HCZ : Hid (decide (pairs (hms Z 6) % 2 = dst W g (hom Z 6 g) % 2) = CZ) := hide hCZ
      have HKN2 := HKN.out
      rw [hCZ] at HKN2
      have HKN := hide HKN2
      clear hCZ HKN2
      have hcap1 := HR2.out.cap
      have hmax1 := HR2.out.max
      unfold maxLen at hmax1
      go_wp2_with (refine wpList_load_gd rfl (.tmp 11) rfl gb rfl K2 ?_)
      refine (Can_yes W H a1 6 c1 g Z w2 HR2.out HM.out hu hh hNz HOZ.out hg hg6).mono ?_
      rintro e w3 ⟨rfl, b3⟩
      rw [HCZ.out]
      have K3 := K2.below b3 S2.out
      have S3 : Hid (gb < w3.heap.size) := hide (by have := S2.out; have := b3.size; omega)
      have HR3 := hide (HR2.out.mono b3)
      have HB3 := hide (below_callB HB2.out b3)
      clear K2 S2 HR2 HB2 b3
      have hlst : lst W Z 6 g 6 ≤ 750 := lst_le hu (by omega) (by omega)
      have HLS : Hid (∃ LS, lst W Z 6 g 6 = LS) := hide ⟨_, rfl⟩
      obtain ⟨LS, hLS⟩ := HLS.out
      go_wp2_with (refine wpList_load_gd rfl (.tmp 11) rfl gb rfl K3 ?_)
      refine (Least_yes W H a1 6 c1 g Z w3 HR3.out HM.out hu hh hNz HOZ.out hg hg6).mono ?_
      rintro e w4 ⟨rfl, b4⟩
      rw [hLS] at HKN hlst ⊢
      clear hLS HLS
      have K4 := K3.below b4 S3.out
      have S4 : Hid (gb < w4.heap.size) := hide (by have := S3.out; have := b4.size; omega)
      have HR4 := hide (HR3.out.mono b4)
      have HB4 := hide (below_callB HB3.out b4)
      clear K3 S3 HR3 HB3 b4
      have HT4 := hide (HT.out.mono HB4.out)
      go_upto_region 17 with fail
      rcases HKN.out with ⟨hC, r, l, hr, hF, hP, hle, hpar⟩ | ⟨hC, hF, hL⟩
      · subst hC
        have HH5 := hide (Home_yes W H 6 r g a1 c1 Z l w4 HR4.out HT4.out (mayB_yes HM.out) HGT.out hF hP (by omega) hu hh HNN.out (by omega))
        have HPAR := hide hpar
        clear hF hP hpar HKN
        go_wp2_with (refine wpList_load_gd rfl (.tmp 11) rfl gb rfl K4 ?_)
        refine HH5.out.mono ?_
        rintro e w5 ⟨la, lc, rfl, -, b5⟩
        have K5 := K4.below b5 S4.out
        have HR5 := hide (HR4.out.mono b5)
        have HB5 := hide (below_callB HB4.out b5)
        obtain ⟨c50, c51, c52⟩ := K5.cells
        clear HH5 K4 S4 HR4 HB4 HT4 b5 c50 c51 K5
        obtain ⟨bb, off, rfl, hcs⟩ := HR5.out.cells (by omega)
        have HCS := hide hcs
        clear hcs
        go_upto_region 22 with fail
        go_wp2_with fail
        go_loopw [19] (fun iv wr2 => ∃ i : Nat, iv = .int .i64 i ∧ i ≤ g ∧ wr2 = w5) (fun iv _ => 6 - (intOf iv).toNat)
        case atStart => exact ⟨0, rfl, by omega, rfl⟩
        case round =>
          obtain ⟨i, rfl, hi, hwr⟩ := hrel
          subst hwr
          have hci := HCS.out i (by omega)
          by_cases hig : i = g
          · subst hig
            rw [hgz] at hci
            clear hg
            have hgl := gway_le H6.out hg6
            have hmod : (i : Int).tmod (W : Int) = ((i % W : Nat) : Int) := by rw [Int.tmod_eq_emod_of_nonneg (by omega)]; simp
            have hdiv : (i : Int).tdiv (W : Int) = ((i / W : Nat) : Int) := by rw [Int.tdiv_eq_ediv_of_nonneg (by omega)]; simp
            have hpar := HPAR.out
            unfold gway at hpar
            generalize i % W = gm at *
            generalize i / W = gd at *
            have hW0 : ¬ (W : Int) = 0 := by omega
            have hle2 : (LS : Int) ≤ (r : Int) := by omega
            have hr2 : (r : Int) ≤ 21 := by omega
            obtain ⟨P, hP⟩ : ∃ P : Nat, W - 1 - gm + (H - 1 - gd) = P := ⟨_, rfl⟩
            have hPi : (W : Int) - 1 - (gm : Int) + (H : Int) - 1 - (gd : Int) = (P : Int) := by omega
            have HPA : Hid (r % 2 = P % 2) := hide (by rw [← hP]; exact hpar)
            clear hpar hP
            go_upto_region 25 with fail
            go_quiet (fail)
            go_wp2_with fail
            go_ret
            exact ⟨ret_bool (by rw [beq_iff_eq]; have := HPA.out; omega), HB5.out.trans (drewN_below _ _ _)⟩
          · have hne : Z.getD i 0 ≠ 0 := fun e => by
              have := idx_le (zs := Z) (v := 0) (k := i) (by omega) e
              unfold ix at hg
              split at hg <;> omega
            have hzr := HOZ.out.rng hlZ i (by omega)
            generalize Z.getD i 0 = z at *
            have hbz : (z != 0) = true := by rw [bne_iff_ne]; exact hne
            go_wp2_with fail
            go_roundw
            case rel => exact ⟨i + 1, by go_num, by omega, trivial⟩
            case measure => simp [intOf]; omega
      · subst hC
        have HH5 := hide (Home_none W H 6 22 g a1 c1 Z w4 HR4.out HT4.out (mayB_yes HM.out) HGT.out hF hL (by omega) hu hh HNN.out (by omega))
        clear hF hL HKN
        go_wp2_with (refine wpList_load_gd rfl (.tmp 11) rfl gb rfl K4 ?_)
        refine HH5.out.mono ?_
        rintro e w5 ⟨rfl, b5⟩
        have HB5 := hide (below_callB HB4.out b5)
        clear HH5 K4 S4 HR4 HB4 HT4 b5
        go_wp2_with fail
        go_ret
        exact ⟨rfl, HB5.out⟩

end Go.Proofs.YticalbpohhpjaaaDoor
