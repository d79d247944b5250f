/-
  The document's sowing. No conditions beyond those that each theorem bears.
-/
import Derived.Test.YtmdnoiebodaikaaSOfN
import Derived.Test.YtmdnoiebodaikaaSow
namespace Go.Proofs.Ytmdnoiebodaikaa
open Go.RowKit

def meas (k : Nat) (v f : Int) : Nat := 2 * k + (if v = f then 0 else 1)

theorem meas_skip (k : Nat) {v v' f : Int} (h : v' = f) (h' : ¬ v = f) : meas k v' f < meas k v f := by
  unfold meas
  rw [if_pos h, if_neg h']
  omega

theorem meas_step (k : Nat) (v v' f : Int) : meas k v' f < meas (k + 1) v f := by
  unfold meas
  split <;> split <;> omega

attribute [local irreducible] capS capB sown agB endS gth spr overB isP gb nx in
set_option maxRecDepth 100000 in
set_option maxHeartbeats 4000000 in
theorem SowOf_ok (a : Option Addr) (n c p t : Nat) (S : List Int) (w : World) (hR : Rd w a n c S) (hn : 2 * (p + 1) = n) (hp : p ≤ 6) (hf : Fit p S) (ht : t ≤ 1) (hov : Hid (overB p S = false)) (i : Nat) (hi : i < p) (hz : S.getD (pl p t i) 0 ≠ 0) (hr8 : n * 8 ≤ 140737488351232) :
    Calls Try.prog 14 #[.agg (mA a n c t), .int .i64 i] w fun e w' => ∃ a' c', e = .returned (.tuple #[.agg (mA a' n c' (sowT p t i S : Nat)), .bool (agB p t i S), .int .i64 0]) ∧ Rd w' a' n c' (sowS p t i S) ∧ Below w.heap.size w w' := by
  have HSW : Hid (sowS p t i S = endS p (capS p t (sown p t i S).1 (sown p t i S).2)) := hide rfl
  have HAG : Hid (agB p t i S = decide ((sown p t i S).2 = pl p t p)) := hide (by unfold agB; rfl)
  have HST0 : Hid (sowT p t i S = if agB p t i S then t else 1 - t) := hide rfl
  have hSl := hR.len
  have HTP := sown_fit ht hi (by omega) hf.pos
  have HTF : Hid (Fit p (sown p t i S).1) := hide ⟨HTP.1, by rw [HTP.2]; exact hf.sum⟩
  have hT : Hid ((sown p t i S).1.length = n) := hide (by unfold sown; rw [spr_length, List.length_set]; exact hSl)
  have hqn : (sown p t i S).2 < 2 * (p + 1) := by unfold sown; exact spr_lt p t _ _ _ (pl_lt ht (by omega))
  have HSP : Hid (spr p t (S.getD (pl p t i) 0).toNat (S.set (pl p t i) 0) (pl p t i) = sown p t i S) := hide (by unfold sown; rfl)
  generalize hRR : sown p t i S = RR at *
  obtain ⟨T, q⟩ := RR
  simp only at HSW HAG HTF hT hqn
  clear hRR HTP
  have HLF : Hid ((sowS p t i S).length = n) := hide (by rw [sowS_length]; exact hSl)
  generalize sowS p t i S = FS at *
  generalize agB p t i S = ag at *
  generalize sowT p t i S = ut at *
  have hmul : (t : Int) * ((p : Int) + 1) = ((t * (p + 1) : Nat) : Int) := by simp
  have hle : t * (p + 1) ≤ 7 := by
    have := Nat.mul_le_mul ht (show p + 1 ≤ 7 by omega)
    omega
  obtain ⟨u, hu⟩ : ∃ u, 1 - t = u := ⟨_, rfl⟩
  have hu1 : u ≤ 1 := by omega
  have h1t : 1 - (t : Int) = (u : Int) := by omega
  have hmul2 : (u : Int) * ((p : Int) + 1) = ((u * (p + 1) : Nat) : Int) := by simp
  have hle2 : u * (p + 1) ≤ 7 := by
    have := Nat.mul_le_mul hu1 (show p + 1 ≤ 7 by omega)
    omega
  have HPA : Hid (pl p t i = t * (p + 1) + i) := hide rfl
  have HPS : Hid (pl p t p = t * (p + 1) + p) := hide rfl
  have HPF : Hid (pl p (1 - t) p = u * (p + 1) + p) := hide (by rw [hu]; rfl)
  have ha := pl_lt (p := p) ht (show i ≤ p by omega)
  have hs := pl_lt (p := p) ht (Nat.le_refl p)
  generalize t * (p + 1) = X at *
  generalize u * (p + 1) = Y at *
  obtain ⟨a0, ha0⟩ : ∃ a0, pl p t i = a0 := ⟨_, rfl⟩
  obtain ⟨s, hse⟩ : ∃ s, pl p t p = s := ⟨_, rfl⟩
  obtain ⟨f, hfe⟩ : ∃ f, pl p (1 - t) p = f := ⟨_, rfl⟩
  have r1 : (X : Int) + (i : Int) = (a0 : Int) := by have := HPA.out; omega
  have r2 : (X : Int) + ((p : Int) + 1) - 1 = (s : Int) := by have := HPS.out; omega
  have r3 : (Y : Int) + ((p : Int) + 1) - 1 = (f : Int) := by have := HPF.out; omega
  rw [ha0] at ha hz HSP
  rw [hse] at hs HAG
  have HA0 := hide ha0
  have HSE := hide hse
  have HFE := hide hfe
  have HU := hide hu
  clear ha0 hse hfe HPA HPS HPF hu
  have ha' : (a0 : Int) < (n : Int) := by omega
  obtain ⟨k0, hk0⟩ : ∃ k0 : Nat, (S.getD a0 0).toNat = k0 := ⟨_, rfl⟩
  have hz1 : S.getD a0 0 = (k0 : Int) := by have := hf.pos a0 ha; omega
  have hk1 : k0 ≤ 1000 := by have := hf.le ha; omega
  rw [hk0] at HSP
  have HP0 : Hid (∀ i, i < 2 * (p + 1) → 0 ≤ (S.set a0 0).getD i 0) := hide (fun i hi => by
    rw [getD_set _ _ _ _ (by omega)]
    split
    · exact Int.le_refl _
    · exact hf.pos i hi)
  have HT0 : Hid (tot p (S.set a0 0) + k0 ≤ 1000) := hide (by
    rw [tot_set p S a0 0 ha (by omega), hz1]
    have := hf.sum
    omega)
  have HL0 : Hid ((S.set a0 0).length = n) := hide (by rw [List.length_set]; exact hSl)
  have hk00 : ((k0 : Int) == 0) = false := by simp; omega
  have hk00n : (k0 == 0) = false := by simp; omega
  have HZ1 := hide hz1
  have HSL := hide hSl
  clear hk0 hz hz1 hSl
  obtain ⟨w0, hw0⟩ : ∃ w0, (w.alloc (Obj.cells (mA a n c t) 24)).alloc (Obj.cells #[.slice none 0 0, .int .i64 0] 24) = w0 := ⟨_, rfl⟩
  have M0 : Mn w0 w.heap.size a n c t := by rw [← hw0]; exact (Mn.new w a n c t).old _
  have M1 : Mn w0 (w.heap.size + 1) none 0 0 0 := by
    rw [← hw0]
    have := Mn.new (w.alloc (Obj.cells (mA a n c t) 24)) none 0 0 0
    rw [World.size_alloc] at this
    exact this
  have B0 : Below w.heap.size w w0 := by rw [← hw0]; exact ((Below.refl _ w).alloc (Nat.le_refl _) _).alloc (by simp) _
  obtain ⟨b, hbe⟩ : ∃ b, w.heap.size = b := ⟨_, rfl⟩
  rw [hbe] at M0 M1
  have HM0 := hide M0
  have HM1 := hide M1
  have HB0 := hide B0
  have HR0 := hide (hR.mono B0)
  have m0 := M0.seeds
  have hq2 : (n : Int) / 2 = ((p + 1 : Nat) : Int) := by omega
  have hn14 : n ≤ 14 := by omega
  have HR := hide hR
  clear M0 M1 B0 hR
  go_enter Try.func14, Try.ntmps14
  go_wp2_with (first | refine wpList_load_mn rfl _ rfl b rfl HM0.out ?_)
  refine (MOver_any a n c p t S _ HR0.out hn hp hf).mono ?_
  rintro e w1 ⟨rfl, hw⟩
  rw [hov.out]
  have HM0' := hide (HM0.out.below hw HM0.out.lt)
  have HM1' := hide (HM1.out.below hw HM1.out.lt)
  have HB1 := hide (HB0.out.trans (hw.mono HB0.out.size))
  have HR1 := hide (HR0.out.mono hw)
  have m0' := HM0'.out.seeds
  have m1' := HM0'.out.turn
  clear hw HM0 HM1 HB0 HR0 m0
  go_wp2_with fail
  refine (within_yes _ _ _ _ (by omega) (by omega)).mono ?_
  rintro e w2 ⟨rfl, hw⟩
  subst w2
  obtain ⟨sb, off, hae, hc⟩ := HR1.out.cells (by omega)
  subst hae
  have c1 := hc a0 (by omega)
  have HC := hide hc
  clear hc
  rw [HZ1.out] at c1
  go_wp2_with fail
  refine (refInts_own _ n c S _ HR1.out hr8).mono ?_
  rintro e w2 ⟨a2, c2, rfl, hown, hw⟩
  obtain ⟨g, rfl, hbg, hnc2, hcm2, hrw⟩ := Rw.of_own hown (by omega)
  have hgb : b + 1 < g := by have := HM1'.out.lt; omega
  have HM02 := hide (HM0'.out.below hw HM0'.out.lt)
  have HM12 := hide (HM1'.out.below hw HM1'.out.lt)
  have HB2 := hide (HB1.out.trans (hw.mono HB1.out.size))
  have HNC := hide hnc2
  have HCM := hide hcm2
  clear hw hown HM0' HM1' HB1 HR1 m0' m1' HC c1 hnc2
  have c2a := hrw.cell (i := a0) (by rw [HSL.out]; omega)
  rw [HZ1.out] at c2a
  have f2a := hrw.frozen a0
  have HW2 := hide (hrw.set a0 0)
  have HK2 := hide (Keeps.set1 w2 g a0 (.int .i64 0))
  have hc2l : c2 ≤ 9223372036854775807 := by unfold maxLen at hcm2; omega
  clear hrw hcm2
  go_wp2_with fail
  go_loopw [9, 13] (fun v x wr => ∃ (q1 k : Nat) (T1 : List Int), v = .int .i64 q1 ∧ x = .int .i64 k ∧ q1 < n ∧ k ≤ 1000 ∧ Hid (T1.length = n) ∧ Hid (∀ i, i < 2 * (p + 1) → 0 ≤ T1.getD i 0) ∧ Hid (tot p T1 + k ≤ 1000) ∧ Hid (spr p t k T1 q1 = (T, q)) ∧ Hid (Rw wr g T1) ∧ Hid (Keeps (fun j => j = g) w2 wr)) (fun v x _ => meas (intOf x).toNat (intOf v) f)
  case atStart => exact ⟨a0, k0, S.set a0 0, rfl, rfl, by omega, hk1, HL0, HP0, HT0, HSP, HW2, HK2⟩
  case round =>
    obtain ⟨q1, k, T1, rfl, rfl, hq1, hkl, hT1, hP1, hS1, hR1, hW1, hK1⟩ := hrel
    clear HW2 HK2 HL0 HP0 HT0 HSP c2a f2a
    by_cases hlt : 0 < k
    · have hlt' : 0 < (k : Int) := by omega
      have hn0 : ¬ (n : Int) = 0 := by omega
      have hmod : ((q1 : Int) + 1) % (n : Int) = (((q1 + 1) % n : Nat) : Int) := by simp
      have hrl := Nat.mod_lt (q1 + 1) (show 0 < n by omega)
      obtain ⟨r, hre⟩ : ∃ r, (q1 + 1) % n = r := ⟨_, rfl⟩
      rw [hre] at hmod hrl
      by_cases hrf : r = f
      · have hrb : ((r : Int) == (f : Int)) = true := by simp [hrf]
        have hrb2 : (r == f) = true := by simp [hrf]
        have HR2 : Hid (spr p t k T1 r = (T, q)) := hide (by
          rw [← hR1.out]
          exact (spr_skip (nx_skip (by rw [hn]; exact hre) (by rw [HFE.out]; exact hrf)) hlt).symm)
        have hqf : ¬ (q1 : Int) = (f : Int) := by
          intro e
          have e' : q1 = r := by omega
          rw [e'] at hre
          by_cases e2 : r + 1 = n
          · rw [e2, Nat.mod_self] at hre; omega
          · rw [Nat.mod_eq_of_lt (by omega)] at hre; omega
        have HRF := hide hrf
        clear hre hrf
        go_wp2_with fail
        rw [hmod]
        refine ⟨⟨r, k, T1, rfl, rfl, hrl, hkl, hT1, hP1, hS1, HR2, hW1, hK1⟩, ?_⟩
        exact meas_skip k (show (r : Int) = (f : Int) by have := HRF.out; omega) hqf
      · have hrb : ((r : Int) == (f : Int)) = false := by simp; omega
        have hrb2 : (r == f) = false := by simpa using hrf
        obtain ⟨k', rfl⟩ : ∃ k', k = k' + 1 := ⟨k - 1, by omega⟩
        have hnx : nx p t q1 = r := nx_step (by rw [hn]; exact hre) (by rw [HFE.out]; exact hrf)
        have HR2 : Hid (spr p t k' (T1.set r (T1.getD r 0 + 1)) r = (T, q)) := hide (by rw [← hR1.out, spr_succ, hnx])
        have c1 := hW1.out.cell (i := r) (by rw [hT1.out]; omega)
        have f1 := hW1.out.frozen r
        have hv := hP1.out r (by omega)
        have hv2 : T1.getD r 0 ≤ 1000 := by
          have := sumN_le (f := fun i => T1.getD i 0) _ hP1.out r (by omega)
          have h2 := hS1.out
          unfold tot at h2
          omega
        have HP2 : Hid (∀ i, i < 2 * (p + 1) → 0 ≤ (T1.set r (T1.getD r 0 + 1)).getD i 0) := hide (fun i hi => by
          rw [getD_set _ _ _ _ (by rw [hT1.out]; omega)]
          split
          · omega
          · exact hP1.out i hi)
        have HT2 : Hid (tot p (T1.set r (T1.getD r 0 + 1)) + k' ≤ 1000) := hide (by
          have := hS1.out
          rw [tot_set p T1 _ _ (by omega) (by rw [hT1.out]; omega)]
          omega)
        have HW2 := hide (hW1.out.set r (T1.getD r 0 + 1))
        have HK2 := hide (hK1.out.setCell (p := ⟨g, r, none⟩) rfl (.int .i64 (T1.getD r 0 + 1)))
        have hrn : (r : Int) < (n : Int) := by omega
        have HRF := hide hrf
        clear hre hrf hnx hR1
        generalize T1.getD r 0 = z at *
        go_wp2_with fail
        rw [hmod]
        refine ⟨⟨r, k', T1.set r (z + 1), rfl, by go_num, hrl, by omega, hide (by rw [List.length_set]; exact hT1.out), HP2, HT2, HR2, HW2, HK2⟩, ?_⟩
        exact meas_step k' _ _ _
    · obtain rfl : k = 0 := by omega
      have hre : T1 = T ∧ q1 = q := by
        have := hR1.out
        rw [spr_zero] at this
        exact ⟨congrArg Prod.fst this, congrArg Prod.snd this⟩
      obtain ⟨rfl, rfl⟩ := hre
      have HWc := hW1
      have HKc := hK1
      clear hW1 hK1 hR1 hS1 hP1
      have HM0c := hide (HM02.out.keeps HKc.out (by omega))
      have HAG2 : Hid (((q1 : Int) == (s : Int)) = ag) := hide (by
        rw [HAG.out, Bool.eq_iff_iff]
        simp
        omega)
      have HAG3 : Hid ((q1 == s) = ag) := hide (by
        rw [HAG.out, Bool.eq_iff_iff]
        simp)
      go_upto_region 21 with fail
      first | rw [HAG2.out] | rw [HAG3.out]
      clear HAG2 HAG3
      have HIS : Hid (isP p t q1 = (decide (q1 / (p + 1) = t) && decide (q1 ≠ s))) := hide (by
        rw [← HSE.out, Bool.eq_iff_iff]
        simp only [isP, decide_eq_true_eq, Bool.and_eq_true]
        rcases (show t = 0 ∨ t = 1 by omega) with rfl | rfl
        · simp only [pl0]
          rw [Nat.div_eq_zero_iff]
          omega
        · simp only [pl1]
          constructor
          · intro h
            refine ⟨?_, by omega⟩
            rw [Nat.div_eq_iff (by omega)]
            omega
          · rintro ⟨h1, h2⟩
            rw [Nat.div_eq_iff (by omega)] at h1
            omega)
      have hdiv : (q1 : Int) / ((p : Int) + 1) = ((q1 / (p + 1) : Nat) : Int) := by simp
      have hd0 : ¬ ((p : Int) + 1 = 0) := by omega
      have hdl : q1 / (p + 1) ≤ 14 := by have := Nat.div_le_self q1 (p + 1); omega
      have m1c := HM0c.out.turn
      have c1 := HWc.out.cell (i := q1) (by rw [hT.out]; omega)
      have hqn' : (q1 : Int) < (n : Int) := by omega
      have HCB : Hid (capB p t T1 q1 = (isP p t q1 && decide (T1.getD q1 0 = 1) && decide (0 < T1.getD (2 * p - q1) 0))) := hide capB_isP
      have HPF := hide (fun (h : isP p t q1 = true) => (show pl p t 0 ≤ q1 ∧ q1 < pl p t p by simpa [isP] using h))
      obtain ⟨z, hze⟩ : ∃ z, T1.getD q1 0 = z := ⟨_, rfl⟩
      rw [hze] at c1 HCB
      have HZE := hide hze
      clear hze
      go_cut [107] (fun x wc => x = .bool (isP p t q1 && decide (z = 1)) ∧ ∃ qd, wc = wr.drewN qd)
      case first =>
        generalize q1 / (p + 1) = d at *
        by_cases hdt : d = t
        · have hdb : ((d : Int) == (t : Int)) = true := by simp [hdt]
          have hdb2 : (d == t) = true := by simp [hdt]
          by_cases hqs : q1 = s
          · have hqb : ((q1 : Int) != (s : Int)) = false := by simp [hqs]
            have hqb2 : (q1 != s) = false := by simp [hqs]
            have HV : Hid ((isP p t q1 && decide (z = 1)) = false) := hide (by rw [HIS.out]; simp [hqs])
            clear hdt hqs
            go_quiet (fail)
            go_wp2_with fail
            go_meet
            case rel => exact ⟨by rw [HV.out], _, rfl⟩
          · have hqb : ((q1 : Int) != (s : Int)) = true := by simp; omega
            have hqb2 : (q1 != s) = true := by simpa using hqs
            have HV : Hid ((isP p t q1 && decide (z = 1)) = (z == 1)) := hide (by rw [HIS.out]; simp [hdt, hqs]; rfl)
            clear hdt hqs
            go_quiet (fail)
            go_wp2_with fail
            go_meet
            case rel => exact ⟨by rw [HV.out], _, rfl⟩
        · have hdb : ((d : Int) == (t : Int)) = false := by simp; omega
          have hdb2 : (d == t) = false := by simpa using hdt
          have HV : Hid ((isP p t q1 && decide (z = 1)) = false) := hide (by rw [HIS.out]; simp [hdt])
          clear hdt
          go_quiet (fail)
          go_wp2_with fail
          go_meet
          case rel => exact ⟨by rw [HV.out], _, rfl⟩
      case rest =>
        obtain ⟨rfl, qd, hwc⟩ := hcut
        have HWd : Hid (Rw (wr.drewN qd) g T1) := hide (HWc.out.below (drewN_below _ wr qd) HWc.out.lt)
        have HKd : Hid (Keeps (fun j => j = g) w2 (wr.drewN qd)) := hide (HKc.out.trans (Keeps.of_all (drewN_below _ wr qd)))
        rw [← hwc] at HWd HKd
        clear hwc HWc HKc m1c c1 HM0c hdiv HIS
        have HCT : Hid (capB p t T1 q1 = true → capS p t T1 q1 = ((T1.set q1 0).set (2 * p - q1) 0).set (pl p t p) (T1.getD (pl p t p) 0 + (1 + T1.getD (2 * p - q1) 0))) := hide (fun h => capB_true h)
        have HCF : Hid (capB p t T1 q1 = false → capS p t T1 q1 = T1) := hide capB_false
        have HCX := capS_fit (q := q1) ht (show 2 * (p + 1) ≤ T1.length by rw [hT.out]; omega) HTF.out.pos
        have HXF : Hid (Fit p (capS p t T1 q1)) := hide ⟨HCX.1, by rw [HCX.2]; exact HTF.out.sum⟩
        have hX : Hid ((capS p t T1 q1).length = n) := hide (by rw [capS_length]; exact hT.out)
        clear HCX
        generalize capS p t T1 q1 = Z at *
        go_upto_if 107 with fail
        go_cut [107] (fun _ wc => Hid (Rw wc g Z) ∧ Hid (Keeps (fun j => j = g) w2 wc))
        case first =>
          cases hcb : (isP p t q1 && decide (z = 1)) with
          | false =>
            have HZT : Hid (Z = T1) := hide (HCF.out (by rw [HCB.out, hcb]; rfl))
            clear hcb HCT HCF HCB HPF
            go_wp2_with fail
            go_meet
            case rel => exact ⟨by rw [HZT.out]; exact HWd, HKd⟩
          | true =>
            have hip : isP p t q1 = true := by simp at hcb; exact hcb.1
            have hz1 : z = 1 := by simp at hcb; exact hcb.2
            obtain ⟨hx2, hx3⟩ := HPF.out hip
            obtain ⟨hqp, b2, b3, b4, b5, b6⟩ := pit_facts ht hx2 hx3
            rw [HSE.out] at b3 b4
            obtain ⟨r, hre⟩ : ∃ r, 2 * p - q1 = r := ⟨_, rfl⟩
            have hri : (n : Int) - 2 - (q1 : Int) = (r : Int) := by omega
            have hrn : (r : Int) < (n : Int) := by omega
            rw [hre] at b2 b4 b6 HCB HCT
            rw [HSE.out] at HCT
            obtain ⟨v, hv⟩ : ∃ v, T1.getD s 0 = v := ⟨_, rfl⟩
            obtain ⟨y, hy⟩ : ∃ y, T1.getD r 0 = y := ⟨_, rfl⟩
            have v1 := HTF.out.pos s hs
            have v2 := HTF.out.le hs
            have y1 := HTF.out.pos r b6
            have y2 := HTF.out.le b6
            have cr := HWd.out.cell (i := r) (by rw [hT.out]; omega)
            have cs := HWd.out.cell (i := s) (by rw [hT.out]; omega)
            have fs := HWd.out.frozen s
            rw [hv] at v1 v2 HCT cs
            rw [hy] at y1 y2 HCT HCB cr
            have hsn : (s : Int) < (n : Int) := by omega
            by_cases hy0 : 0 < y
            · have HZ2 : Hid (Z = ((T1.set s (v + (y + 1))).set q1 0).set r 0) := hide (by
                rw [cap_form T1 b3 b4]
                exact HCT.out (by rw [HCB.out, hip, hz1]; simp [hy0]))
              have HW3 : Hid (∀ W, Rw W g T1 → Rw (((W.setCell ⟨g, s, none⟩ (.int .i64 (v + (y + 1)))).setCell ⟨g, q1, none⟩ (.int .i64 0)).setCell ⟨g, r, none⟩ (.int .i64 0)) g Z) := hide (fun W h => by rw [HZ2.out]; exact ((h.set s _).set q1 0).set r 0)
              have HK3 : Hid (∀ W, Keeps (fun j => j = g) w2 W → Keeps (fun j => j = g) w2 (((W.setCell ⟨g, s, none⟩ (.int .i64 (v + (y + 1)))).setCell ⟨g, q1, none⟩ (.int .i64 0)).setCell ⟨g, r, none⟩ (.int .i64 0))) := hide (fun W h => ((h.setCell rfl _).setCell rfl _).setCell rfl _)
              have cq := HWd.out.cell (i := q1) (by rw [hT.out]; omega)
              have fq := HWd.out.frozen q1
              have fr := HWd.out.frozen r
              have n1 : ¬ s = q1 := fun e => b3 e.symm
              have n2 : ¬ s = r := fun e => b4 e.symm
              have n3 : ¬ q1 = r := fun e => b2 e.symm
              clear hcb HCT HCF HCB HPF hip hre hv hy
              go_wp2_with fail
              go_region
              go_wp2_with fail
              go_meet
              case rel => exact ⟨HW3.out _ HWd.out, (HK3.out _ HKd.out).drew⟩
            · have HZT : Hid (Z = T1) := hide (HCF.out (by rw [HCB.out]; simp [hy0]))
              have hy0' : decide (0 < y) = false := by simpa using hy0
              clear hcb HCT HCF HCB HPF hip hre hv hy
              go_wp2_with fail
              go_meet
              case rel => exact ⟨by rw [HZT.out]; exact HWd, HKd⟩
        case rest =>
          obtain ⟨HWe, HKe⟩ := hcut
          clear HWd HKd HCT HCF HCB HPF
          have HM0e := hide (HM02.out.keeps HKe.out (by omega))
          have HM1e := hide (HM12.out.keeps HKe.out (by omega))
          have m1e := HM0e.out.turn
          have HBe := hide (HB2.out.trans (HKe.out.below HB2.out.size (fun k hk e => by omega)))
          clear HKe HB2 HM02 HM12
          have MO : Mn (wc.alloc (Obj.cells #[.slice (some ⟨g, 0, none⟩) n c2, .int .i64 t] 24)) wc.heap.size (some ⟨g, 0, none⟩) n c2 t := Mn.new wc _ _ _ _
          have W7 := (HWe.out.below ((Below.refl wc.heap.size wc).alloc (Nat.le_refl _) (Obj.cells #[.slice (some ⟨g, 0, none⟩) n c2, .int .i64 t] 24)) HWe.out.lt)
          have hgo := HWe.out.lt
          have hbo := HM1e.out.lt
          have M07 := HM0e.out.old (Obj.cells #[.slice (some ⟨g, 0, none⟩) n c2, .int .i64 t] 24)
          have M17 := HM1e.out.old (Obj.cells #[.slice (some ⟨g, 0, none⟩) n c2, .int .i64 t] 24)
          have B7 := HBe.out.alloc HBe.out.size (Obj.cells #[.slice (some ⟨g, 0, none⟩) n c2, .int .i64 t] 24)
          go_upto_region 28 with fail
          obtain ⟨o, ho⟩ : ∃ o, wc.heap.size = o := ⟨_, rfl⟩
          obtain ⟨w7, hw7⟩ : ∃ w7, wc.alloc (Obj.cells #[.slice (some ⟨g, 0, none⟩) n c2, .int .i64 t] 24) = w7 := ⟨_, rfl⟩
          rw [hw7] at MO W7 M07 M17 B7 ⊢
          rw [ho] at MO hgo hbo ⊢
          have HMO := hide MO
          have HW7 := hide W7
          have HM07 := hide M07
          have HM17 := hide M17
          have HB7 := hide B7
          clear hw7 ho MO W7 M07 M17 B7 HM0e HM1e HWe HBe m1e
          have HRZ := hide (HW7.out.rd hX.out HNC.out HCM.out)
          go_upto_if 139 with (first | refine wpList_load_mn rfl _ rfl o rfl HMO.out ?_)
          refine (MOver_any _ n c2 p t Z _ HRZ.out hn hp HXF.out).mono ?_
          rintro e w8 ⟨rfl, hw⟩
          have HMO8 := hide (HMO.out.below hw HMO.out.lt)
          have HW8 := hide (HW7.out.below hw HW7.out.lt)
          have HM08 := hide (HM07.out.below hw HM07.out.lt)
          have HM18 := hide (HM17.out.below hw HM17.out.lt)
          have HB8 := hide (HB7.out.trans (hw.mono HB7.out.size))
          clear hw HMO HW7 HM07 HM17 HB7 HRZ
          have HFS : Hid (FS = if overB p Z then gth p Z else Z) := hide (by rw [HSW.out]; unfold endS; rfl)
          clear HSW
          go_upto_if 139 with fail
          go_cut [139] (fun _ wc => Hid (Rw wc g FS) ∧ Hid (Keeps (fun j => j = g) w8 wc))
          case first =>
            cases hov2 : overB p Z with
            | false =>
              have HFZ : Hid (FS = Z) := hide (by rw [HFS.out, hov2]; simp)
              clear hov2 HFS
              go_wp2_with fail
              go_meet
              case rel => exact ⟨by rw [HFZ.out]; exact HW8, Keeps.refl _ _⟩
            | true =>
              have HFZ : Hid (FS = gb p p Z) := hide (by rw [HFS.out, hov2, gb_gth (by rw [hX.out]; omega)]; simp)
              clear hov2 HFS
              go_wp2_with fail
              have HG0 : Hid (Rw w8 g (gb p 0 Z)) := hide (by rw [gb_zero]; exact HW8.out)
              go_loopw [17] (fun v wr => ∃ k : Nat, v = .int .i64 k ∧ k ≤ p ∧ Hid (Rw wr g (gb p k Z)) ∧ Hid (Keeps (fun j => j = g) w8 wr)) (fun v _ => p - (intOf v).toNat)
              case atStart => exact ⟨0, rfl, by omega, HG0, Keeps.refl _ _⟩
              case round =>
                obtain ⟨k, rfl, hk, hWk, hKk⟩ := hrel
                by_cases hlt : k < p
                · have hlt' : (k : Int) < (p : Int) := by omega
                  have HGS : Hid (gb p (k + 1) Z = mvS (mvS (gb p k Z) k p) (p + 1 + k) (2 * p + 1)) := hide (gb_succ _ _ _)
                  have HGL : Hid ((gb p k Z).length = n) := hide (by rw [gb_length]; exact hX.out)
                  have HGF := hide (gb_fit (by rw [hX.out]; omega) HXF.out k hk)
                  generalize gb p k Z = V at *
                  have HVF2 := hide (mvS_fit (by rw [HGL.out]; omega) HGF.out (q := k) (s := p) (by omega) (by omega) (by omega))
                  obtain ⟨e1, he1⟩ : ∃ e1, 2 * p + 1 = e1 := ⟨_, rfl⟩
                  obtain ⟨y1, hy1⟩ : ∃ y1, p + 1 + k = y1 := ⟨_, rfl⟩
                  have ri1 : (n : Int) - 1 = (e1 : Int) := by omega
                  have ri2 : (p : Int) + 1 + (k : Int) = (y1 : Int) := by omega
                  have hkn : (k : Int) < (n : Int) := by omega
                  have hpn : (p : Int) < (n : Int) := by omega
                  have hen : (e1 : Int) < (n : Int) := by omega
                  have hyn : (y1 : Int) < (n : Int) := by omega
                  rw [he1, hy1] at HGS
                  have ck := hWk.out.cell (i := k) (by rw [HGL.out]; omega)
                  have cp := hWk.out.cell (i := p) (by rw [HGL.out]; omega)
                  have ce := hWk.out.cell (i := e1) (by rw [HGL.out]; omega)
                  have cy := hWk.out.cell (i := y1) (by rw [HGL.out]; omega)
                  have fk := hWk.out.frozen k
                  have fp := hWk.out.frozen p
                  have fe := hWk.out.frozen e1
                  have fy := hWk.out.frozen y1
                  have b1 := HGF.out.pos k (by omega)
                  have b2 := HGF.out.le (i := k) (by omega)
                  have b3 := HGF.out.pos p (by omega)
                  have b4 := HGF.out.le (i := p) (by omega)
                  have b5 := HGF.out.pos e1 (by omega)
                  have b6 := HGF.out.le (i := e1) (by omega)
                  have b7 := HGF.out.pos y1 (by omega)
                  have b8 := HGF.out.le (i := y1) (by omega)
                  have HEN : Hid ((((V.set p (V.getD p 0 + V.getD k 0)).set k 0).set e1 (V.getD e1 0 + V.getD y1 0)).set y1 0 = gb p (k + 1) Z) := hide (by
                    rw [HGS.out, mv_form V (by omega) _ rfl, mv_form (mvS V k p) (by omega)]
                    rw [mvS_getD _ _ _ _ (by rw [HGL.out]; omega) (by rw [HGL.out]; omega), mvS_getD _ _ _ _ (by rw [HGL.out]; omega) (by rw [HGL.out]; omega), if_neg (by omega), if_neg (by omega), if_neg (by omega), if_neg (by omega)])
                  generalize V.getD k 0 = zk at *
                  generalize V.getD p 0 = zp at *
                  generalize V.getD e1 0 = ze at *
                  generalize V.getD y1 0 = zy at *
                  have HWN : Hid (∀ W, Rw W g V → Rw ((((W.setCell ⟨g, p, none⟩ (.int .i64 (zp + zk))).setCell ⟨g, k, none⟩ (.int .i64 0)).setCell ⟨g, e1, none⟩ (.int .i64 (ze + zy))).setCell ⟨g, y1, none⟩ (.int .i64 0)) g (gb p (k + 1) Z)) := hide (fun W h => by rw [← HEN.out]; exact (((h.set p _).set k 0).set e1 _).set y1 0)
                  have HKN : Hid (∀ W, Keeps (fun j => j = g) w8 W → Keeps (fun j => j = g) w8 ((((W.setCell ⟨g, p, none⟩ (.int .i64 (zp + zk))).setCell ⟨g, k, none⟩ (.int .i64 0)).setCell ⟨g, e1, none⟩ (.int .i64 (ze + zy))).setCell ⟨g, y1, none⟩ (.int .i64 0))) := hide (fun W h => (((h.setCell rfl _).setCell rfl _).setCell rfl _).setCell rfl _)
                  have n1 : ¬ k = p := by omega
                  have n2 : ¬ p = k := by omega
                  have n3 : ¬ e1 = p := by omega
                  have n4 : ¬ e1 = k := by omega
                  have n5 : ¬ y1 = p := by omega
                  have n6 : ¬ y1 = k := by omega
                  have n7 : ¬ y1 = e1 := by omega
                  have n8 : ¬ p = e1 := by omega
                  have n9 : ¬ k = e1 := by omega
                  have n10 : ¬ p = y1 := by omega
                  have n11 : ¬ k = y1 := by omega
                  have n12 : ¬ e1 = y1 := by omega
                  have HHH := hide (And.intro he1 hy1)
                  clear he1 hy1 HEN HGS HVF2
                  go_wp2_with fail
                  go_region
                  go_wp2_with fail
                  go_region
                  go_wp2_with fail
                  exact ⟨⟨k + 1, by go_num, by omega, HWN.out _ hWk.out, (HKN.out _ hKk.out).drew.drew⟩, by simp [intOf]; omega⟩
                · obtain rfl : k = p := by omega
                  have hlt' : ¬ (k : Int) < (k : Int) := by omega
                  go_wp2_with fail
                  go_meet
                  case rel => exact ⟨by rw [HFZ.out]; exact hWk, hKk⟩
          case rest =>
            obtain ⟨HW9, HK9⟩ := hcut
            have HMO9 := hide (HMO8.out.keeps HK9.out (by omega))
            have HM09 := hide (HM08.out.keeps HK9.out (by omega))
            have HM19 := hide (HM18.out.keeps HK9.out (by omega))
            have HB9 := hide (HB8.out.trans (HK9.out.below HB8.out.size (fun k hk e => by omega)))
            clear HW8 HMO8 HM08 HM18 HB8 HK9 HFS
            cases ag with
            | true =>
              have hut : ut = t := by rw [HST0.out]; simp
              subst hut
              go_wp2_with (first | refine wpList_load_mn rfl _ rfl o rfl HMO9.out ?_ | (refine wpList_store_mn rfl _ _ rfl (b + 1) rfl rfl HM19.out ?_; intro w10 m10 k10))
              refine bodyPost_ret (results_mn2 rfl _ _ (b + 1) rfl m10) rfl ⟨_, _, rfl, (HW9.out.keeps k10 (by omega)).rd HLF.out HNC.out HCM.out, by
                first
                | exact HB9.out.trans (k10.below HB9.out.size (fun k hk e => by omega))
                | (rw [← hbe]; exact HB9.out.trans (k10.below HB9.out.size (fun k hk e => by omega)))⟩
            | false =>
              have hut : ut = u := by rw [HST0.out, HU.out]; simp
              subst hut
              have m1 := HM09.out.turn
              have o1 := HMO9.out.turn
              have fo := HMO9.out.frozen 1
              have HMOt := hide (HMO9.out.setT (ut : Int))
              have HW10 := hide (HW9.out.keeps (Keeps.set1 wc o 1 (.int .i64 (ut : Int))) (by omega))
              have HM10 := hide (HM19.out.keeps (Keeps.set1 wc o 1 (.int .i64 (ut : Int))) (by omega))
              have HB10 := hide (HB9.out.trans ((Keeps.set1 wc o 1 (.int .i64 (ut : Int))).below HB9.out.size (fun k hk e => by omega)))
              go_wp2_with (first | refine wpList_load_mn rfl _ rfl o rfl HMOt.out ?_ | (refine wpList_store_mn rfl _ _ rfl (b + 1) rfl rfl HM10.out ?_; intro w10 m10 k10))
              refine bodyPost_ret (results_mn2 rfl _ _ (b + 1) rfl m10) rfl ⟨_, _, rfl, (HW10.out.keeps k10 (by omega)).rd HLF.out HNC.out HCM.out, by
                first
                | exact HB10.out.trans (k10.below HB10.out.size (fun k hk e => by omega))
                | (rw [← hbe]; exact HB10.out.trans (k10.below HB10.out.size (fun k hk e => by omega)))⟩

end Go.Proofs.Ytmdnoiebodaikaa
